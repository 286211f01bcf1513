package digest

import (
	"math/big"
	"strings"
	"testing"
)

// firstPrimes are the first n primes.
func firstPrimes(n int) []int64 {
	var primes []int64
	for p := int64(2); len(primes) < n; p++ {
		if big.NewInt(p).ProbablyPrime(20) {
			primes = append(primes, p)
		}
	}
	return primes
}

// isRoot says whether tail is the first 64 bits of the fractional part of the root of p of that degree.
func isRoot(tail uint64, p int64, degree int64) bool {
	scaled := new(big.Int).Lsh(big.NewInt(p), uint(64*degree))
	power := func(x *big.Int) *big.Int { return new(big.Int).Exp(x, big.NewInt(degree), nil) }
	for whole := int64(0); whole < 32; whole++ {
		low := new(big.Int).Lsh(big.NewInt(whole), 64)
		low.Add(low, new(big.Int).SetUint64(tail))
		high := new(big.Int).Add(low, big.NewInt(1))
		if power(low).Cmp(scaled) <= 0 && power(high).Cmp(scaled) > 0 {
			return true
		}
	}
	return false
}

func TestRoots(t *testing.T) {
	for i, p := range firstPrimes(len(cubeRoots)) {
		if i < len(squareRoots) && !isRoot(squareRoots[i], p, 2) {
			t.Errorf("P3: the square root of %d", p)
		}
		if !isRoot(cubeRoots[i], p, 3) {
			t.Errorf("P3: the cube root of %d", p)
		}
	}
}

func TestWidths(t *testing.T) {
	if width[uint32]() != 32 || width[uint64]() != 64 {
		t.Errorf("P3: words of %d and %d bits", width[uint32](), width[uint64]())
	}
	if blockSize[uint32]() != 64 || blockSize[uint64]() != 128 {
		t.Errorf("P3: blocks of %d and %d bytes", blockSize[uint32](), blockSize[uint64]())
	}
}

func TestPadding(t *testing.T) {
	zeros := func(n int) string { return strings.Repeat("\x00", n) }
	// The last ones cannot be reached by writing: there the number of bits needs its upper half.
	for _, c := range []struct {
		count       uint64
		short, long string
	}{
		{0, "\x80" + zeros(63), "\x80" + zeros(127)},
		{55, "\x80" + zeros(6) + "\x01\xb8", "\x80" + zeros(70) + "\x01\xb8"},
		{56, "\x80" + zeros(69) + "\x01\xc0", "\x80" + zeros(69) + "\x01\xc0"},
		{64, "\x80" + zeros(61) + "\x02\x00", "\x80" + zeros(61) + "\x02\x00"},
		{111, "\x80" + zeros(14) + "\x03\x78", "\x80" + zeros(14) + "\x03\x78"},
		{112, "\x80" + zeros(13) + "\x03\x80", "\x80" + zeros(141) + "\x03\x80"},
		{1 << 29, "\x80" + zeros(58) + "\x01" + zeros(4), "\x80" + zeros(122) + "\x01" + zeros(4)},
		{1 << 61, "\x80" + zeros(63), "\x80" + zeros(118) + "\x01" + zeros(8)},
	} {
		if got := padding[uint32](c.count); got != c.short {
			t.Errorf("P3: behind %d bytes come, for 256 bits, %x, want %x", c.count, got, c.short)
		}
		if got := padding[uint64](c.count); got != c.long {
			t.Errorf("P3: behind %d bytes come, for 512 bits, %x, want %x", c.count, got, c.long)
		}
	}
}

func TestTurned(t *testing.T) {
	if got := turned(uint32(0x80000003), 1); got != 0xc0000001 {
		t.Errorf("P3: 32 bits turned: %x", got)
	}
	if got := turned(uint64(0x8000000000000003), 1); got != 0xc000000000000001 {
		t.Errorf("P3: 64 bits turned: %x", got)
	}
	if got := lower(uint32(1), [3]uint{31, 30, 1}); got != 6 {
		t.Errorf("P3: 32 bits turned and shifted: %x", got)
	}
}

func TestWithLeavesWhatWas(t *testing.T) {
	for name, empty := range map[string]Running{"256": Begin[uint32](), "512": Begin[uint64]()} {
		before := empty.With(strings.Repeat("x", 100))
		sum := before.Sum()
		one, other := before.With("one"), before.With(strings.Repeat("other", 99))
		if before.Sum() != sum || one.Sum() == other.Sum() {
			t.Errorf("P2: of %s bits: what was taken in behind changed the digest ahead of it", name)
		}
	}
}
