package curve

import (
	"math/big"
	"math/rand"
	"testing"
)

func big10(s string) *big.Int {
	n, _ := new(big.Int).SetString(s, 10)
	return n
}

func powerOf2(n uint) *big.Int { return new(big.Int).Lsh(big.NewInt(1), n) }

func plus(a, b *big.Int) *big.Int  { return new(big.Int).Add(a, b) }
func minus(a, b *big.Int) *big.Int { return new(big.Int).Sub(a, b) }
func times(a, b *big.Int) *big.Int { return new(big.Int).Mul(a, b) }

// modulo is the one of 0 to m - 1.
func modulo(a, m *big.Int) *big.Int { return new(big.Int).Mod(a, m) }

var (
	bigP = minus(powerOf2(255), big.NewInt(19))
	bigL = plus(powerOf2(252), big10("27742317777372353535851937790883648493"))
)

func bigOf(w words) *big.Int {
	n := new(big.Int)
	for _, word := range []uint64{w.w3, w.w2, w.w1, w.w0} {
		n.Lsh(n, 64).Or(n, new(big.Int).SetUint64(word))
	}
	return n
}

// bytesOf are the lowest n bytes, the lowest first.
func bytesOf(number *big.Int, n int) string {
	out := make([]byte, n)
	for i := range out {
		out[i] = byte(new(big.Int).Rsh(number, uint(8*i)).Uint64())
	}
	return string(out)
}

func wordsFrom(n *big.Int) words { return wordsOf(bytesOf(n, Size)) }

// edges are numbers below bound at which words end, and drawn ones.
func edges(bound *big.Int) []*big.Int {
	var out []*big.Int
	add := func(n *big.Int) {
		if n.Sign() >= 0 && n.Cmp(bound) < 0 {
			out = append(out, n)
		}
	}
	for _, near := range []*big.Int{new(big.Int), powerOf2(64), powerOf2(128), powerOf2(192), powerOf2(252), powerOf2(254), powerOf2(255), powerOf2(256), bigL, bigP, bound} {
		for _, by := range []int64{-38, -20, -19, -18, -2, -1, 0, 1, 2, 18, 19, 20, 37, 38} {
			add(plus(near, big.NewInt(by)))
		}
	}
	drawn := rand.New(rand.NewSource(5))
	for range 40 {
		add(new(big.Int).Rand(drawn, bound))
	}
	return out
}

func TestConstantsAreThoseOfTheDocument(t *testing.T) {
	inverse := func(n int64) *big.Int { return new(big.Int).ModInverse(big.NewInt(n), bigP) }
	d := modulo(times(big.NewInt(-121665), inverse(121666)), bigP)
	y := modulo(times(big.NewInt(4), inverse(5)), bigP)
	for _, c := range []struct {
		what string
		is   words
		want *big.Int
	}{
		{"p", prime, bigP},
		{"L", order, bigL},
		{"1", words(one), big.NewInt(1)},
		{"p - 2", inversePower, minus(bigP, big.NewInt(2))},
		{"(p + 3) / 8", rootPower, new(big.Int).Rsh(plus(bigP, big.NewInt(3)), 3)},
		{"d", words(curveD), d},
		{"the base's y", words(baseY), y},
	} {
		if bigOf(c.is).Cmp(c.want) != 0 {
			t.Errorf("P5: %s is %d, want %d", c.what, bigOf(c.is), c.want)
		}
	}
	root := bigOf(words(rootOfMinusOne))
	if modulo(times(root, root), bigP).Cmp(minus(bigP, big.NewInt(1))) != 0 {
		t.Errorf("P7: %d is no root of -1", root)
	}
	if baseX.parity() != 0 || !onCurve(bigOf(words(baseX)), y) {
		t.Errorf("P5: the base's x is %d", bigOf(words(baseX)))
	}
}

func TestNumbers(t *testing.T) {
	all := edges(bigP)
	for _, a := range all {
		for _, b := range all {
			left, right := number(wordsFrom(a)), number(wordsFrom(b))
			for _, c := range []struct {
				what string
				is   number
				want *big.Int
			}{
				{"+", left.plus(right), plus(a, b)},
				{"-", left.minus(right), minus(a, b)},
				{"*", left.times(right), times(a, b)},
			} {
				if bigOf(words(c.is)).Cmp(modulo(c.want, bigP)) != 0 {
					t.Fatalf("P5: %d %s %d is %d modulo p, want %d", a, c.what, b, bigOf(words(c.is)), modulo(c.want, bigP))
				}
			}
		}
	}
}

func TestProductOfAllNumbers(t *testing.T) {
	all := edges(powerOf2(256))
	for _, a := range all {
		for _, b := range all {
			low, high := product(wordsFrom(a), wordsFrom(b))
			got := plus(bigOf(low), new(big.Int).Lsh(bigOf(high), 256))
			if got.Cmp(times(a, b)) != 0 {
				t.Fatalf("P6: %d times %d is %d", a, b, got)
			}
		}
	}
}

func TestInverses(t *testing.T) {
	for _, a := range edges(bigP) {
		got := bigOf(words(number(wordsFrom(a)).inverse()))
		want := new(big.Int)
		if a.Sign() != 0 {
			want.ModInverse(a, bigP)
		}
		if got.Cmp(want) != 0 {
			t.Errorf("P5: 1 divided by %d is %d, want %d", a, got, want)
		}
	}
}

func TestRoots(t *testing.T) {
	for _, a := range edges(bigP) {
		root, found := number(wordsFrom(a)).root()
		if found != (new(big.Int).ModSqrt(a, bigP) != nil) {
			t.Errorf("P7: that %d has a root: %v", a, found)
		}
		if square := bigOf(words(root.times(root))); found && square.Cmp(a) != 0 {
			t.Errorf("P7: the root of %d has the square %d", a, square)
		}
	}
}
