package values

import "math/bits"

// layout is how a floating-point number is laid out: behind one bit of sign so many bits of exponent, then so many of part.
type layout struct {
	exponent int
	part     int
}

var (
	wide   = layout{11, 52}
	narrow = [...]layout{{5, 10}, {8, 23}} // in two bytes, in four
)

// oneNaN are the 64 bits of what is no number.
const oneNaN = 0x7ff8000000000000

// floatHead is the head of the shortest form of a floating-point number of 64 bits.
func floatHead(number uint64) head {
	for i, l := range narrow {
		if less := l.narrowed(number); l.widened(less) == number {
			return head{otherHead, inTwo + byte(i), less}
		}
	}
	return head{otherHead, inEight, number}
}

// floatOf are the 64 bits of the number that stands in a head, whatever its length.
func floatOf(h head) uint64 {
	if h.told == inEight {
		return h.number
	}
	return narrow[h.told-inTwo].widened(h.number)
}

// isFinite says whether 64 bits are a number, and not an infinite one.
func isFinite(number uint64) bool {
	_, exponent, _ := wide.split(number)
	return exponent != wide.top()
}

// mayBeFloat says whether 64 bits are a number, or those of what is none.
func mayBeFloat(number uint64) bool {
	_, _, part := wide.split(number)
	return isFinite(number) || part == 0 || number == oneNaN
}

// top is the exponent of what is infinite or no number.
func (l layout) top() int { return 1<<l.exponent - 1 }

// further is by how much the exponent of 64 bits is above that of l.
func (l layout) further() int { return wide.top()/2 - l.top()/2 }

func (l layout) split(number uint64) (sign uint64, exponent int, part uint64) {
	sign = number >> (l.exponent + l.part)
	exponent = int(number>>l.part) & l.top()
	part = number & (1<<l.part - 1)
	return sign, exponent, part
}

func (l layout) joined(sign uint64, exponent int, part uint64) uint64 {
	return (sign<<l.exponent|uint64(exponent))<<l.part | part
}

// widened are the 64 bits of what number is in this layout.
func (l layout) widened(number uint64) uint64 {
	sign, exponent, part := l.split(number)
	switch {
	case exponent == l.top():
		exponent = wide.top()
	case exponent > 0:
		exponent += l.further()
	case part > 0:
		// 64 bits have an exponent for it: the part's highest bit is no longer written.
		by := l.part + 1 - bits.Len64(part)
		exponent = l.further() + 1 - by
		part = part<<by - 1<<l.part
	}
	return wide.joined(sign, exponent, part<<(wide.part-l.part))
}

// narrowed is, in this layout, the number that 64 bits are; another one, if the layout has it not.
func (l layout) narrowed(number uint64) uint64 {
	sign, exponent, part := wide.split(number)
	own := exponent - l.further()
	part >>= wide.part - l.part
	switch {
	case exponent == wide.top():
		own = l.top()
	case own >= l.top():
		return 0
	case own <= 0:
		own, part = 0, (part|1<<l.part)>>(1-own)
	}
	return l.joined(sign, own, part)
}
