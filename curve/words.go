package curve

import "math/bits"

// words is a number of 256 bits, w0 being its lowest word. (Fields, not an array: the compiler holds them in registers.)
type words struct {
	w0, w1, w2, w3 uint64
}

const highest = uint64(1) << 63

// wordsOf reads 32 bytes, the lowest first; bytes that are missing count as 0.
func wordsOf(s string) words {
	var out [4]uint64
	for i := range min(len(s), Size) {
		out[i/8] |= uint64(s[i]) << (i % 8 * 8)
	}
	return words{out[0], out[1], out[2], out[3]}
}

func (w words) bytes() string {
	var out []byte
	for _, word := range [4]uint64{w.w0, w.w1, w.w2, w.w3} {
		for i := range 8 {
			out = append(out, byte(word>>(i*8)))
		}
	}
	return string(out)
}

// sum is a + b, and what does not fit: 0 or 1. Of a and a that is the highest bit.
func sum(a, b words) (words, uint64) {
	w0, carry := bits.Add64(a.w0, b.w0, 0)
	w1, carry := bits.Add64(a.w1, b.w1, carry)
	w2, carry := bits.Add64(a.w2, b.w2, carry)
	w3, carry := bits.Add64(a.w3, b.w3, carry)
	return words{w0, w1, w2, w3}, carry
}

// difference is a - b, and 1 if that is below 0 (2^256 is added then).
func difference(a, b words) (words, uint64) {
	w0, borrow := bits.Sub64(a.w0, b.w0, 0)
	w1, borrow := bits.Sub64(a.w1, b.w1, borrow)
	w2, borrow := bits.Sub64(a.w2, b.w2, borrow)
	w3, borrow := bits.Sub64(a.w3, b.w3, borrow)
	return words{w0, w1, w2, w3}, borrow
}

// scaled is a times by, and what does not fit.
func scaled(a words, by uint64) (words, uint64) {
	high0, low0 := bits.Mul64(a.w0, by)
	high1, low1 := bits.Mul64(a.w1, by)
	high2, low2 := bits.Mul64(a.w2, by)
	high3, low3 := bits.Mul64(a.w3, by)
	w1, carry := bits.Add64(low1, high0, 0)
	w2, carry := bits.Add64(low2, high1, carry)
	w3, carry := bits.Add64(low3, high2, carry)
	return words{low0, w1, w2, w3}, high3 + carry
}

// row is a times by, and more: the lowest word of that, and the four above it.
func row(a words, by uint64, more words) (uint64, words) {
	part, top := scaled(a, by)
	part, carry := sum(part, more)
	return part.w0, words{part.w1, part.w2, part.w3, top + carry}
}

// product is a times b: the lower half and the upper one.
func product(a, b words) (words, words) {
	w0, high := row(a, b.w0, words{})
	w1, high := row(a, b.w1, high)
	w2, high := row(a, b.w2, high)
	w3, high := row(a, b.w3, high)
	return words{w0, w1, w2, w3}, high
}

func below(a, bound words) bool {
	_, borrow := difference(a, bound)
	return borrow == 1
}

// reduced is a modulo m, if a is below twice m.
func reduced(a, m words) words {
	less, borrow := difference(a, m)
	// Chosen by a mask: whether it was below would hardly be foretold by the machine.
	keep := -borrow
	return words{
		less.w0 ^ (less.w0^a.w0)&keep,
		less.w1 ^ (less.w1^a.w1)&keep,
		less.w2 ^ (less.w2^a.w2)&keep,
		less.w3 ^ (less.w3^a.w3)&keep,
	}
}
