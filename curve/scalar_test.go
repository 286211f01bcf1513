package curve

import (
	"math/big"
	"strings"
	"testing"
)

func TestReduced(t *testing.T) {
	for _, n := range edges(powerOf2(256)) {
		for _, shift := range []uint{0, 1, 3, 64, 255, 256} {
			for _, by := range []int64{-1, 0, 1} {
				all := plus(new(big.Int).Lsh(n, shift), big.NewInt(by))
				if all.Sign() < 0 {
					continue
				}
				got := bigOf(Reduced(bytesOf(all, 2*Size)).held)
				if got.Cmp(modulo(all, bigL)) != 0 {
					t.Fatalf("P6: %d is %d modulo L, want %d", all, got, modulo(all, bigL))
				}
			}
		}
	}
	highest := minus(powerOf2(512), big.NewInt(1))
	if got := bigOf(Reduced(strings.Repeat("\xff", 64)).held); got.Cmp(modulo(highest, bigL)) != 0 {
		t.Errorf("P6: 2^512 - 1 is %d modulo L", got)
	}
}

func TestReducedOfFewBytes(t *testing.T) {
	for n := range 2*Size + 1 {
		s := strings.Repeat("\xfe", n)
		if Reduced(s) != Reduced(s+strings.Repeat("\x00", 2*Size-n)) {
			t.Errorf("P5: %d bytes are another number than with bytes 0 behind them", n)
		}
	}
}

func TestScalarsAreBelowL(t *testing.T) {
	for _, n := range edges(powerOf2(256)) {
		s := bytesOf(n, Size)
		got, ok := ScalarOf(s)
		if ok != (n.Cmp(bigL) < 0) {
			t.Errorf("P7: that %d is below L: %v", n, ok)
		}
		if ok && got.Bytes() != s || !ok && got != (Scalar{}) {
			t.Errorf("P7: the bytes %x are the number %x", s, got.Bytes())
		}
	}
	for n := range 100 {
		if _, ok := ScalarOf(strings.Repeat("\x00", n)); ok != (n == Size) {
			t.Errorf("P7: that %d bytes are a number: %v", n, ok)
		}
	}
}

func TestScalarsCount(t *testing.T) {
	all := edges(bigL)
	for _, a := range all {
		for _, b := range all {
			left, right := Scalar{wordsFrom(a)}, Scalar{wordsFrom(b)}
			if got := bigOf(left.Plus(right).held); got.Cmp(modulo(plus(a, b), bigL)) != 0 {
				t.Fatalf("P6: %d + %d is %d modulo L", a, b, got)
			}
			if got := bigOf(left.Times(right).held); got.Cmp(modulo(times(a, b), bigL)) != 0 {
				t.Fatalf("P6: %d times %d is %d modulo L", a, b, got)
			}
		}
	}
}
