package signet

import (
	"crypto/sha256"
	"crypto/sha512"
	"encoding/hex"
	"math"
	"strings"
	"testing"
	"unsafe"

	"signet/api"
)

var bothWidths = []int{256, 512}

func begin(t *testing.T, bits int) *Hash {
	t.Helper()
	h, e := New(bits)
	if h == nil || e != api.OK {
		t.Fatalf("P3: New(%d) gives a Hash: %v, and the error %d", bits, h != nil, e)
	}
	return h
}

// digestOf writes the parts, one after the other.
func digestOf(t *testing.T, bits int, parts ...string) string {
	t.Helper()
	h := begin(t, bits)
	for _, part := range parts {
		h.Write(part)
	}
	return h.Sum()
}

// expected is the digest as Go's library makes it.
func expected(bits int, s string) string {
	if bits == 256 {
		sum := sha256.Sum256([]byte(s))
		return string(sum[:])
	}
	sum := sha512.Sum512([]byte(s))
	return string(sum[:])
}

// sample is a text of n bytes that has no short period.
func sample(n int) string {
	out := make([]byte, n)
	x := uint32(1)
	for i := range out {
		x = x*1664525 + 1013904223
		out[i] = byte(x >> 24)
	}
	return string(out)
}

func TestNewRefuses(t *testing.T) {
	wrong := []int{0, 1, 8, 32, 64, -1, -256, -512, 224, 255, 257, 384, 511, 513, 1024, 256 + 1<<32, 512 + 1<<32, math.MaxInt, math.MinInt}
	for _, bits := range wrong {
		if h, e := New(bits); h != nil || e != api.ErrArg {
			t.Errorf("P1, P3: New(%d) gives a Hash: %v, and the error %d, want none and ErrArg", bits, h != nil, e)
		}
	}
}

func TestKnownDigests(t *testing.T) {
	long := "abcdefghbcdefghicdefghijdefghijkefghijklfghijklmghijklmnhijklmnoijklmnopjklmnopqklmnopqrlmnopqrsmnopqrstnopqrstu"
	for _, c := range []struct {
		bits    int
		s, want string
	}{
		{256, "", "e3b0c44298fc1c149afbf4c8996fb92427ae41e4649b934ca495991b7852b855"},
		{256, "abc", "ba7816bf8f01cfea414140de5dae2223b00361a396177a9cb410ff61f20015ad"},
		{256, "abcdbcdecdefdefgefghfghighijhijkijkljklmklmnlmnomnopnopq", "248d6a61d20638b8e5c026930c3e6039a33ce45964ff2167f6ecedd419db06c1"},
		{256, strings.Repeat("a", 1000000), "cdc76e5c9914fb9281a1c7e284d73e67f1809a48a497200e046d39ccc7112cd0"},
		{512, "", "cf83e1357eefb8bdf1542850d66d8007d620e4050b5715dc83f4a921d36ce9ce47d0d13c5d85f2b0ff8318d2877eec2f63b931bd47417a81a538327af927da3e"},
		{512, "abc", "ddaf35a193617abacc417349ae20413112e6fa4e89a97ea20a9eeee64b55d39a2192992a274fc1a836ba3c23a3feebbd454d4423643ce80e2a9ac94fa54ca49f"},
		{512, long, "8e959b75dae313da8cf4f72814fc143f8f7779c6eb9f7fa17299aeadb6889018501d289e4900f7e4331b99dec4b5433ac7d329eeb6dd26545e96e55b874be909"},
		{512, strings.Repeat("a", 1000000), "e718483d0ce769644e2e42c7bc15b4638e1f98b13b2044285632a803afa973ebde0ff244877ea60a4cb0432ce577c31beb009c5c2c49aa2e4eadb217ad8cc09b"},
	} {
		if got := hex.EncodeToString([]byte(digestOf(t, c.bits, c.s))); got != c.want {
			t.Errorf("P3: the digest of %d bits of %d bytes is %s, want %s", c.bits, len(c.s), got, c.want)
		}
	}
}

func TestEveryLength(t *testing.T) {
	for _, bits := range bothWidths {
		for n := range 600 {
			s := sample(n)
			got := digestOf(t, bits, s)
			if len(got) != bits/8 || got != expected(bits, s) {
				t.Errorf("P3: the digest of %d bits of %d bytes is %x, want %x", bits, n, got, expected(bits, s))
			}
		}
	}
}

func TestEveryByte(t *testing.T) {
	for _, bits := range bothWidths {
		for b := range 256 {
			s := strings.Repeat(string([]byte{byte(b)}), 7)
			if digestOf(t, bits, s) != expected(bits, s) {
				t.Errorf("P3: the digest of %d bits of bytes %d", bits, b)
			}
		}
	}
}

func TestMoreBehindSum(t *testing.T) {
	for _, bits := range bothWidths {
		h := begin(t, bits)
		all := ""
		for n := range 300 {
			for range 2 {
				if h.Sum() != expected(bits, all) {
					t.Fatalf("P3: the digest of %d bits of %d bytes, with sums ahead of it", bits, len(all))
				}
			}
			part := sample(n)
			h.Write(part)
			all += part
		}
	}
}

func TestTwoParts(t *testing.T) {
	for _, bits := range bothWidths {
		for _, n := range []int{0, 1, 55, 56, 63, 64, 65, 111, 112, 127, 128, 129, 256, 300} {
			s := sample(n)
			for cut := range n + 1 {
				if digestOf(t, bits, s[:cut], s[cut:]) != expected(bits, s) {
					t.Errorf("P4: the digest of %d bits of %d and %d bytes", bits, cut, n-cut)
				}
			}
		}
	}
}

func TestManyParts(t *testing.T) {
	s := sample(1500)
	for _, bits := range bothWidths {
		for size := 1; size <= 300; size++ {
			parts := []string{""}
			for rest := s; rest != ""; {
				n := min(size, len(rest))
				parts = append(parts, rest[:n], "")
				rest = rest[n:]
			}
			if digestOf(t, bits, parts...) != expected(bits, s) {
				t.Errorf("P4: the digest of %d bits in parts of %d bytes", bits, size)
			}
		}
	}
}

func TestEmptyParts(t *testing.T) {
	for _, bits := range bothWidths {
		if digestOf(t, bits, "", "", "") != expected(bits, "") {
			t.Errorf("P4: the digest of %d bits of empty parts", bits)
		}
	}
}

// A text over memory that changes later shows whether a piece of it was kept.
func TestTextIsNotKept(t *testing.T) {
	for _, bits := range bothWidths {
		for _, n := range []int{1, 63, 64, 65, 127, 128, 129, 300} {
			memory := []byte(sample(n))
			h := begin(t, bits)
			h.Write(unsafe.String(&memory[0], n))
			if string(memory) != sample(n) {
				t.Errorf("P2: of %d bits: the text of %d bytes was written into", bits, n)
			}
			clear(memory)
			if h.Sum() != expected(bits, sample(n)) {
				t.Errorf("P2: of %d bits: the text of %d bytes was kept", bits, n)
			}
		}
	}
}

func TestHashesStandAlone(t *testing.T) {
	for _, bits := range bothWidths {
		one, other := begin(t, bits), begin(t, bits)
		for n := range 100 {
			one.Write(sample(n))
			other.Write("other")
		}
		copied := *one
		copied.Write("copied")
		all := ""
		for n := range 100 {
			all += sample(n)
		}
		if one.Sum() != expected(bits, all) || other.Sum() != expected(bits, strings.Repeat("other", 100)) {
			t.Errorf("P2: of %d bits: the digest hangs on what another Hash was given", bits)
		}
	}
}
