package curve

import (
	"math/big"
	"strings"
	"testing"
)

// pair is a point as the document tells it.
type pair struct {
	x, y *big.Int
}

func bigD() *big.Int { return bigOf(words(curveD)) }

func onCurve(x, y *big.Int) bool {
	xx, yy := times(x, x), times(y, y)
	left, right := minus(yy, xx), plus(big.NewInt(1), times(bigD(), times(xx, yy)))
	return modulo(minus(left, right), bigP).Sign() == 0
}

func quotient(a, b *big.Int) *big.Int {
	inverse := new(big.Int).ModInverse(modulo(b, bigP), bigP)
	return modulo(times(a, inverse), bigP)
}

// sumOf is the document's sum, word by word.
func sumOf(a, b pair) pair {
	turn := times(bigD(), times(times(a.x, b.x), times(a.y, b.y)))
	return pair{
		quotient(plus(times(a.x, b.y), times(b.x, a.y)), plus(big.NewInt(1), turn)),
		quotient(plus(times(a.y, b.y), times(a.x, b.x)), minus(big.NewInt(1), turn)),
	}
}

func (p pair) bytes() string {
	return bytesOf(plus(p.y, new(big.Int).Lsh(big.NewInt(int64(p.x.Bit(0))), 255)), Size)
}

// pairOf reads bytes as the document says, and whether they are a point.
func pairOf(s string) (pair, bool) {
	held := bigOf(wordsOf(s))
	odd := held.Bit(255)
	y := new(big.Int).SetBit(held, 255, 0)
	if y.Cmp(bigP) >= 0 {
		return pair{}, false
	}
	square := times(y, y)
	x := new(big.Int).ModSqrt(quotient(minus(square, big.NewInt(1)), plus(times(bigD(), square), big.NewInt(1))), bigP)
	if x == nil || x.Sign() == 0 && odd == 1 {
		return pair{}, false
	}
	if x.Bit(0) != odd {
		x = minus(bigP, x)
	}
	return pair{x, y}, true
}

// withBit has the highest bit set as odd says.
func withBit(y *big.Int, odd uint) string {
	return bytesOf(new(big.Int).SetBit(y, 255, odd), Size)
}

// candidates are 32 bytes each: of some the document says that they are a point.
func candidates() []string {
	var out []string
	ys := edges(powerOf2(255))
	for i := range int64(60) {
		ys = append(ys, big.NewInt(i), minus(powerOf2(255), big.NewInt(1+i)))
	}
	for _, y := range ys {
		out = append(out, withBit(y, 0), withBit(y, 1))
	}
	return out
}

// points are some, with those of 1, 2, 4 and 8 steps.
func points(t *testing.T) []string {
	t.Helper()
	out := []string{Base().Bytes()}
	for _, s := range candidates() {
		if _, ok := pairOf(s); ok {
			out = append(out, s)
		}
	}
	eight, ok := pairOf(bytesOf(big10("2707385501144840649318225287225658788936804267575313519463743609750303402022"), Size))
	if !ok {
		t.Fatal("the point of eight steps is none")
	}
	at := eight
	for range 7 {
		out = append(out, at.bytes())
		at = sumOf(at, eight)
	}
	if at.x.Sign() != 0 || out[len(out)-1] == at.bytes() {
		t.Fatal("the point of eight steps has others")
	}
	return append(out, at.bytes())
}

func mustBePoint(t *testing.T, s string) Point {
	t.Helper()
	p, ok := PointOf(s)
	if !ok {
		t.Fatalf("P7: %x are no point", s)
	}
	return p
}

func TestBytesThatAreAPoint(t *testing.T) {
	for _, s := range candidates() {
		want, is := pairOf(s)
		got, ok := PointOf(s)
		if ok != is {
			t.Errorf("P7: that %x are a point: %v, want %v", s, ok, is)
		}
		if ok && (got.Bytes() != s || bigOf(words(got.x)).Cmp(want.x) != 0) {
			t.Errorf("P7: %x are the point %d, %d", s, bigOf(words(got.x)), bigOf(words(got.y)))
		}
		if !ok && got != (Point{}) {
			t.Errorf("P7: %x are no point, and yet one is told", s)
		}
	}
}

func TestBytesThatAreNoPoint(t *testing.T) {
	for i := range int64(19) {
		for odd := range uint(2) {
			if _, ok := PointOf(withBit(plus(bigP, big.NewInt(i)), odd)); ok {
				t.Errorf("P7: y = p + %d is taken", i)
			}
		}
	}
	if _, ok := PointOf(withBit(big.NewInt(1), 1)); ok {
		t.Errorf("P7: x = 0, y = 1 is taken where the highest bit is 1")
	}
	if _, ok := PointOf(withBit(minus(bigP, big.NewInt(1)), 1)); ok {
		t.Errorf("P7: x = 0, y = -1 is taken where the highest bit is 1")
	}
	for n := range 100 {
		if _, ok := PointOf("\x01" + strings.Repeat("\x00", n)); ok != (n == Size-1) {
			t.Errorf("P7: that %d bytes are a point: %v", n+1, ok)
		}
	}
}

func TestSums(t *testing.T) {
	all := points(t)
	few := append(all[:12:12], all[len(all)-8:]...)
	for _, a := range all {
		for _, b := range few {
			left, _ := pairOf(a)
			right, _ := pairOf(b)
			got := mustBePoint(t, a).Plus(mustBePoint(t, b)).Bytes()
			if want := sumOf(left, right).bytes(); got != want {
				t.Fatalf("P5: the sum of %x and %x is %x, want %x", a, b, got, want)
			}
		}
	}
}

func TestNegatives(t *testing.T) {
	for _, s := range points(t) {
		p := mustBePoint(t, s)
		if p.Plus(p.Negative()).Bytes() != neutral().Bytes() {
			t.Errorf("P7: %x less itself is not 0, 1", s)
		}
	}
}

func TestTimes(t *testing.T) {
	all := points(t)
	for _, s := range append(all[:12:12], all[len(all)-8:]...) {
		p := mustBePoint(t, s)
		want := neutral()
		for n := range int64(40) {
			if got := p.Times(Scalar{wordsFrom(big.NewInt(n))}).Bytes(); got != want.Bytes() {
				t.Fatalf("P5: %d times %x is %x", n, s, got)
			}
			want = want.Plus(p)
		}
	}
}

func TestLTimesTheBaseChangesNothing(t *testing.T) {
	last := Scalar{wordsFrom(minus(bigL, big.NewInt(1)))}
	if got := Base().Times(last); got.Bytes() != Base().Negative().Bytes() || got.Plus(Base()).Bytes() != neutral().Bytes() {
		t.Errorf("P5: L - 1 times the base is %x", got.Bytes())
	}
}

func TestMultiples(t *testing.T) {
	all := points(t)
	for i, n := range edges(bigL) {
		m := modulo(times(n, n), bigL)
		left, right := Scalar{wordsFrom(n)}, Scalar{wordsFrom(m)}
		p, q := mustBePoint(t, all[i%len(all)]), mustBePoint(t, all[(7*i+3)%len(all)])
		if Multiples(left, p, right, q).Bytes() != p.Times(left).Plus(q.Times(right)).Bytes() {
			t.Errorf("P7: %d times %x and %d times %x", n, p.Bytes(), m, q.Bytes())
		}
	}
}
