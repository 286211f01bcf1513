package curve

// number is a number modulo p = 2^255 - 19. It is held as the one of 0 to p - 1, so == asks whether two are the same.
type number words

var (
	one   = number{w0: 1}
	prime = words{0xffffffffffffffed, 0xffffffffffffffff, 0xffffffffffffffff, 0x7fffffffffffffff}

	// p - 2: a number to that power is 1 divided by the number.
	inversePower = words{0xffffffffffffffeb, 0xffffffffffffffff, 0xffffffffffffffff, 0x7fffffffffffffff}

	// (p + 3) / 8: a square to that power is its root, or its root divided by that of -1.
	rootPower = words{0xfffffffffffffffe, 0xffffffffffffffff, 0xffffffffffffffff, 0x0fffffffffffffff}

	rootOfMinusOne = number{0xc4ee1b274a0ea0b0, 0x2f431806ad2fe478, 0x2b4d00993dfbd7a7, 0x2b8324804fc1df0b}
)

func (a number) plus(b number) number {
	// Both are below 2^255: nothing is carried out.
	all, _ := sum(words(a), words(b))
	return number(reduced(all, prime))
}

func (a number) minus(b number) number {
	// p is added first, so that it does not go below 0.
	more, _ := sum(words(a), prime)
	less, _ := difference(more, words(b))
	return number(reduced(less, prime))
}

func (a number) times(b number) number {
	low, high := product(words(a), words(b))
	// 2^256 is 38 modulo p.
	folded, above := scaled(high, 38)
	rest, carry := sum(folded, low)
	above += carry
	// 2^255 is 19 modulo p. Above it stand at most 77, so that the sum stays below twice p.
	above = above<<1 | rest.w3>>63
	rest.w3 &^= highest
	rest, _ = sum(rest, words{w0: above * 19})
	return number(reduced(rest, prime))
}

func (a number) power(n words) number {
	out := one
	for range 256 {
		var bit uint64
		n, bit = sum(n, n)
		out = out.times(out)
		if bit == 1 {
			out = out.times(a)
		}
	}
	return out
}

// inverse is 1 divided by a; of 0 it is 0.
func (a number) inverse() number { return a.power(inversePower) }

// root is a number whose square is a, and whether there is one.
func (a number) root() (number, bool) {
	out := a.power(rootPower)
	if out.times(out) != a {
		out = out.times(rootOfMinusOne)
	}
	return out, out.times(out) == a
}

// parity is 1 if the number is odd.
func (a number) parity() uint64 { return a.w0 & 1 }
