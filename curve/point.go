// Package curve counts on the curve y y - x x = 1 + d x x y y, modulo p = 2^255 - 19: its points, and the numbers that points are taken times.
package curve

// Size is how many bytes a point has, and a Scalar.
const Size = 32

// Point is a point of the curve. Its x and y are held as fractions, x / z and y / z, since to divide is slow; t is x y / z.
type Point struct {
	x, y, z, t number
}

var (
	// d = -121665 / 121666.
	curveD = number{0x75eb4dca135978a3, 0x00700a4d4141d8ab, 0x8cc740797779e898, 0x52036cee2b6ffe73}

	baseX = number{0xc9562d608f25d51a, 0x692cc7609525a7b2, 0xc0a4e231fdd6dc5c, 0x216936d3cd6e53fe}
	baseY = number{0x6666666666666658, 0x6666666666666666, 0x6666666666666666, 0x6666666666666666}
)

// Base is the point that keys and signatures are multiples of.
func Base() Point { return pointAt(baseX, baseY) }

func neutral() Point { return pointAt(number{}, one) }

func pointAt(x, y number) Point { return Point{x, y, one, x.times(y)} }

// PointOf is the point whose bytes are s, and whether there is one.
func PointOf(s string) (Point, bool) {
	held := wordsOf(s)
	parity := held.w3 >> 63
	held.w3 &^= highest
	y := number(held)
	x, found := across(y)
	if x.parity() != parity {
		x = number{}.minus(x)
	}
	// An x of 0 has just one parity.
	if len(s) != Size || !below(held, prime) || !found || x.parity() != parity {
		return Point{}, false
	}
	return pointAt(x, y), true
}

// across is one of the x that y has on the curve, and whether there is one.
func across(y number) (number, bool) {
	square := y.times(y)
	above, under := square.minus(one), square.times(curveD).plus(one)
	return above.times(under.inverse()).root()
}

// Bytes are the bytes of a point.
func (p Point) Bytes() string {
	by := p.z.inverse()
	x, y := p.x.times(by), p.y.times(by)
	held := words(y)
	held.w3 |= x.parity() << 63
	return held.bytes()
}

// Negative is the point whose sum with p changes nothing.
func (p Point) Negative() Point {
	zero := number{}
	return Point{zero.minus(p.x), p.y, p.z, zero.minus(p.t)}
}

// Plus is the sum of two points. It holds for all points, for twice the same too, as neither part of the sum is ever divided by 0: d is no square.
func (p Point) Plus(q Point) Point {
	less := p.y.minus(p.x).times(q.y.minus(q.x))
	more := p.y.plus(p.x).times(q.y.plus(q.x))
	turn := p.t.times(q.t).times(curveD)
	turn = turn.plus(turn)
	whole := p.z.times(q.z)
	whole = whole.plus(whole)
	x, xUnder := more.minus(less), whole.plus(turn)
	y, yUnder := more.plus(less), whole.minus(turn)
	return Point{x.times(yUnder), y.times(xUnder), xUnder.times(yUnder), x.times(y)}
}

// Times is n times p.
func (p Point) Times(n Scalar) Point { return Multiples(n, p, Scalar{}, neutral()) }

// Multiples is the sum of n times p and m times q, faster than one after the other.
func Multiples(n Scalar, p Point, m Scalar, q Point) Point {
	steps := [4]Point{neutral(), p, q, p.Plus(q)}
	out := neutral()
	left, right := n.held, m.held
	for range 256 {
		var low, high uint64
		left, low = sum(left, left)
		right, high = sum(right, right)
		out = out.Plus(out).Plus(steps[low|high<<1])
	}
	return out
}
