package curve

// Scalar is a number that points are taken times, modulo L: so many times the base changes nothing.
type Scalar struct {
	held words // below L
}

var order = words{0x5812631a5cf5d3ed, 0x14def9dea2f79cd6, 0, 0x1000000000000000}

// ScalarOf is the number whose 32 bytes are s, the lowest first, and whether it is one that is below L.
func ScalarOf(s string) (Scalar, bool) {
	held := wordsOf(s)
	if len(s) != Size || !below(held, order) {
		return Scalar{}, false
	}
	return Scalar{held}, true
}

// Reduced is the number of at most 64 bytes, the lowest first, modulo L.
func Reduced(s string) Scalar {
	cut := min(len(s), Size)
	return remainder(wordsOf(s[:cut]), wordsOf(s[cut:]))
}

// Bytes are the 32 bytes of a number, the lowest first.
func (a Scalar) Bytes() string { return a.held.bytes() }

// Plus is a + b modulo L.
func (a Scalar) Plus(b Scalar) Scalar {
	all, _ := sum(a.held, b.held)
	return Scalar{reduced(all, order)}
}

// Times is a times b modulo L.
func (a Scalar) Times(b Scalar) Scalar { return remainder(product(a.held, b.held)) }

// remainder is low + 2^256 high, modulo L.
func remainder(low, high words) Scalar {
	var rest words
	for _, half := range [2]words{high, low} {
		for range 256 {
			var bit uint64
			half, bit = sum(half, half)
			rest, _ = sum(rest, rest)
			rest.w0 |= bit
			rest = reduced(rest, order)
		}
	}
	return Scalar{rest}
}
