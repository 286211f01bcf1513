package signet

import (
	"crypto/ed25519"
	"crypto/sha512"
	"encoding/hex"
	"math/big"
	"strings"
	"testing"
	"unsafe"

	"signet/api"
	"signet/curve"
)

var (
	zeros      = strings.Repeat("\x00", 32)
	neutralKey = "\x01" + zeros[1:]
	orderOfKey = func() *big.Int {
		n, _ := new(big.Int).SetString("27742317777372353535851937790883648493", 10)
		return n.Add(n, new(big.Int).Lsh(big.NewInt(1), 252))
	}()
)

func unhex(t *testing.T, s string) string {
	t.Helper()
	b, err := hex.DecodeString(s)
	if err != nil {
		t.Fatal(err)
	}
	return string(b)
}

// seedOf is one of many seeds.
func seedOf(n int) string { return expected(256, sample(n+1)) }

func keyOf(t *testing.T, seed string) string {
	t.Helper()
	key, e := PublicKey(seed)
	if len(key) != 32 || e != api.OK {
		t.Fatalf("P5: the key of %x is %x, %d", seed, key, e)
	}
	return key
}

func signatureOf(t *testing.T, seed, message string) string {
	t.Helper()
	s, e := Sign(seed, message)
	if len(s) != 64 || e != api.OK {
		t.Fatalf("P6: the signature of %x under %x is %x, %d", message, seed, s, e)
	}
	return s
}

func mustVerify(t *testing.T, want api.Errno, key, message, signature string) {
	t.Helper()
	if e := Verify(key, message, signature); e != want {
		t.Errorf("P7: Verify(%x, %x, %x) = %d, want %d", key, message, signature, e, want)
	}
}

// lowestFirst are the 32 bytes of a number of a signature.
func lowestFirst(n *big.Int) string {
	out := make([]byte, 32)
	n.FillBytes(out)
	for i := range 16 {
		out[i], out[31-i] = out[31-i], out[i]
	}
	return string(out)
}

func numberIn(s string) *big.Int {
	n := new(big.Int)
	for i := len(s) - 1; i >= 0; i-- {
		n.Lsh(n, 8).Or(n, big.NewInt(int64(s[i])))
	}
	return n
}

// libraryTakes says whether Go's library takes a signature. It reads keys in which y is not below p too, and an odd x of 0.
func libraryTakes(key, message, signature string) bool {
	return ed25519.Verify(ed25519.PublicKey(key), []byte(message), []byte(signature))
}

func TestKnownSignatures(t *testing.T) {
	for _, c := range []struct{ seed, key, message, signature string }{
		{"9d61b19deffd5a60ba844af492ec2cc44449c5697b326919703bac031cae7f60", "d75a980182b10ab7d54bfed3c964073a0ee172f3daa62325af021a68f707511a", "", "e5564300c360ac729086e2cc806e828a84877f1eb8e5d974d873e065224901555fb8821590a33bacc61e39701cf9b46bd25bf5f0595bbe24655141438e7a100b"},
		{"4ccd089b28ff96da9db6c346ec114e0f5b8a319f35aba624da8cf6ed4fb8a6fb", "3d4017c3e843895a92b70aa74d1b7ebc9c982ccf2ec4968cc0cd55f12af4660c", "72", "92a009a9f0d4cab8720e820b5f642540a2b27b5416503f8fb3762223ebdb69da085ac1e43e15996e458f3613d0f11d8c387b2eaeb4302aeeb00d291612bb0c00"},
		{"c5aa8df43f9f837bedb7442f31dcb7b166d38535076f094b85ce3a2e0b4458f7", "fc51cd8e6218a1a38da47ed00230f0580816ed13ba3303ac5deb911548908025", "af82", "6291d657deec24024827e69c3abe01a30ce548a284743a445e3680d7db5ac3ac18ff9b538d16f290ae67f760984dc6594a7c15e9716ed28dc027beceea1ec40a"},
	} {
		seed, message := unhex(t, c.seed), unhex(t, c.message)
		key, signature := keyOf(t, seed), signatureOf(t, seed, message)
		if key != unhex(t, c.key) {
			t.Errorf("P5: the key of %s is %x, want %s", c.seed, key, c.key)
		}
		if signature != unhex(t, c.signature) {
			t.Errorf("P6: the signature of %s is %x, want %s", c.message, signature, c.signature)
		}
		mustVerify(t, api.OK, key, message, signature)
	}
}

func TestSignaturesOfManySeeds(t *testing.T) {
	seeds := []string{zeros, strings.Repeat("\xff", 32), neutralKey, zeros[1:] + "\x80"}
	for n := range 120 {
		seeds = append(seeds, seedOf(n))
	}
	for n, seed := range seeds {
		message := sample(n * n)
		own := ed25519.NewKeyFromSeed([]byte(seed))
		key, signature := keyOf(t, seed), signatureOf(t, seed, message)
		if key != string(own[32:]) {
			t.Errorf("P5: the key of %x is %x, want %x", seed, key, own[32:])
		}
		if want := ed25519.Sign(own, []byte(message)); signature != string(want) {
			t.Errorf("P6: the signature of %d bytes is %x, want %x", len(message), signature, want)
		}
		mustVerify(t, api.OK, key, message, signature)
	}
}

func TestSeedsOfAnotherLength(t *testing.T) {
	for n := range 130 {
		if n == 32 {
			continue
		}
		if key, e := PublicKey(sample(n)); key != "" || e != api.ErrArg {
			t.Errorf("P1, P5: the key of a seed of %d bytes is %x, %d", n, key, e)
		}
		if s, e := Sign(sample(n), "message"); s != "" || e != api.ErrArg {
			t.Errorf("P1, P6: the signature with a seed of %d bytes is %x, %d", n, s, e)
		}
	}
}

func TestVerifyOfOtherLengths(t *testing.T) {
	key, signature := keyOf(t, seedOf(1)), signatureOf(t, seedOf(1), "message")
	for n := range 130 {
		if n != 32 {
			mustVerify(t, api.ErrArg, (key + sample(200))[:n], "message", signature)
			mustVerify(t, api.ErrArg, (key + sample(200))[:n], "message", sample(64))
		}
		if n != 64 {
			mustVerify(t, api.ErrArg, key, "message", (signature + sample(200))[:n])
			// The length is told first, whatever the key is.
			mustVerify(t, api.ErrArg, "\x02"+zeros[1:], "message", (signature + sample(200))[:n])
		}
	}
}

func TestVerifyOfAnythingElse(t *testing.T) {
	message := "a message"
	key, signature := keyOf(t, seedOf(2)), signatureOf(t, seedOf(2), message)
	flipped := func(s string, bit int) string {
		out := []byte(s)
		out[bit/8] ^= 1 << (bit % 8)
		return string(out)
	}
	for bit := range 512 {
		mustVerify(t, api.ErrSignature, key, message, flipped(signature, bit))
	}
	for bit := range 256 {
		mustVerify(t, api.ErrSignature, flipped(key, bit), message, signature)
	}
	for bit := range len(message) * 8 {
		mustVerify(t, api.ErrSignature, key, flipped(message, bit), signature)
	}
	for _, other := range []string{"", message[1:], message + "\x00", message + message} {
		mustVerify(t, api.ErrSignature, key, other, signature)
	}
	mustVerify(t, api.ErrSignature, keyOf(t, seedOf(3)), message, signature)
	mustVerify(t, api.ErrSignature, key, message, signatureOf(t, seedOf(3), message))
	mustVerify(t, api.ErrSignature, key, message, signature[32:]+signature[:32])
	mustVerify(t, api.ErrSignature, key, message, zeros+zeros)
}

func TestSecondHalfIsBelowL(t *testing.T) {
	for n := range 6 {
		key, signature := keyOf(t, seedOf(n)), signatureOf(t, seedOf(n), "m")
		s := numberIn(signature[32:])
		for s.Add(s, orderOfKey); s.BitLen() <= 256; s.Add(s, orderOfKey) {
			mustVerify(t, api.ErrSignature, key, "m", signature[:32]+lowestFirst(s))
		}
	}
	// Under the key 0, 1 a signature is s, and s times the base.
	base := curve.Base()
	at := func(by int64) string { return lowestFirst(new(big.Int).Add(orderOfKey, big.NewInt(by))) }
	mustVerify(t, api.OK, neutralKey, "m", neutralKey+zeros)
	mustVerify(t, api.OK, neutralKey, "m", base.Bytes()+neutralKey)
	mustVerify(t, api.OK, neutralKey, "m", base.Negative().Bytes()+at(-1))
	mustVerify(t, api.ErrSignature, neutralKey, "m", neutralKey+at(0))
	mustVerify(t, api.ErrSignature, neutralKey, "m", base.Bytes()+at(1))
}

func TestKeysThatAreNoPoint(t *testing.T) {
	below := strings.Repeat("\xff", 30)
	for _, c := range []struct{ what, key string }{
		{"y is p", "\xed" + below + "\x7f"},
		{"y is p, the highest bit 1", "\xed" + below + "\xff"},
		{"y is p + 1", "\xee" + below + "\x7f"},
		{"y is p + 1, the highest bit 1", "\xee" + below + "\xff"},
		{"x is 0, y is 1, the highest bit 1", "\x01" + zeros[2:] + "\x80"},
		{"x is 0, y is -1, the highest bit 1", "\xec" + below + "\xff"},
	} {
		taken := 0
		for n := range 40 {
			message := sample(n)
			if libraryTakes(c.key, message, neutralKey+zeros) {
				taken++
			}
			mustVerify(t, api.ErrSignature, c.key, message, neutralKey+zeros)
		}
		if taken == 0 {
			t.Errorf("P7: %s: no message that a looser reading would take", c.what)
		}
	}
	for _, key := range []string{"\x02" + zeros[1:], "\x02" + zeros[2:] + "\x80", "\xff" + below + "\x7f", "\xff" + below + "\xff"} {
		mustVerify(t, api.ErrSignature, key, "m", neutralKey+zeros)
	}
}

func TestFirstHalfHasThoseBytes(t *testing.T) {
	below := strings.Repeat("\xff", 30)
	for _, first := range []string{"\xee" + below + "\x7f", "\x01" + zeros[2:] + "\x80", "\xee" + below + "\xff", zeros} {
		mustVerify(t, api.ErrSignature, neutralKey, "m", first+zeros)
	}
}

// eightSteps is a point of which 8 times, and not less, is 0, 1.
func eightSteps(t *testing.T) curve.Point {
	t.Helper()
	point, ok := curve.PointOf(unhex(t, "26e8958fc2b227b045c3f489f2ef98f0d5dfac05d3c63339b13802886d53fc05"))
	if !ok {
		t.Fatal("P7: the point of eight steps is none")
	}
	return point
}

// The keys of few steps have messages that suit, and others that do not.
func TestKeysOfFewSteps(t *testing.T) {
	var few []string
	point := eightSteps(t)
	for at := point; len(few) < 8; at = at.Plus(point) {
		few = append(few, at.Bytes())
	}
	if few[7] != neutralKey || few[3] == neutralKey {
		t.Fatalf("the point of eight steps has others: %x", few)
	}
	for _, key := range few {
		for _, first := range few {
			for n := range 12 {
				want := api.ErrSignature
				if libraryTakes(key, sample(n), first+zeros) {
					want = api.OK
				}
				mustVerify(t, want, key, sample(n), first+zeros)
			}
		}
	}
}

// A key that is the sum of an ordinary one and a point of eight steps takes a signature only if k is a multiple of 8: nothing is multiplied away.
func TestKeysWithFewStepsInThem(t *testing.T) {
	point, _ := curve.PointOf(keyOf(t, seedOf(4)))
	mixed := point.Plus(eightSteps(t)).Bytes()
	sum := []byte(expected(512, seedOf(4)))
	sum[0] &= 248
	sum[31] = sum[31]&127 | 64
	a, r := curve.Reduced(string(sum[:32])), curve.Reduced("any")
	first := curve.Base().Times(r).Bytes()
	taken := 0
	for n := range 60 {
		held := sha512.Sum512([]byte(first + mixed + sample(n)))
		k := curve.Reduced(string(held[:]))
		want := api.ErrSignature
		if k.Bytes()[0]%8 == 0 {
			want = api.OK
			taken++
		}
		mustVerify(t, want, mixed, sample(n), first+k.Times(a).Plus(r).Bytes())
	}
	if taken == 0 || taken == 60 {
		t.Errorf("P7: of 60 messages %d suit", taken)
	}
}

// Texts over memory that changes later show whether pieces of them are in the answers.
func TestSeedAndMessageAreNotKept(t *testing.T) {
	seed, message := seedOf(5), sample(200)
	key, signature := keyOf(t, seed), signatureOf(t, seed, message)
	memory := []byte(seed + message)
	seedText, messageText := unsafe.String(&memory[0], 32), unsafe.String(&memory[32], 200)
	gotKey, gotSignature := keyOf(t, seedText), signatureOf(t, seedText, messageText)
	if string(memory) != seed+message {
		t.Errorf("P2: what was handed in was written into")
	}
	clear(memory)
	if gotKey != key || gotSignature != signature {
		t.Errorf("P2: the answers hang on memory of the arguments")
	}
}

func TestSignaturesHangOnTheArgumentsAlone(t *testing.T) {
	key, signature := keyOf(t, seedOf(6)), signatureOf(t, seedOf(6), "m")
	for n := range 10 {
		other := signatureOf(t, seedOf(n), sample(n))
		mustVerify(t, api.ErrSignature, key, "m", other)
		if keyOf(t, seedOf(6)) != key || signatureOf(t, seedOf(6), "m") != signature {
			t.Fatalf("P2: the second answer is another one")
		}
		mustVerify(t, api.OK, key, "m", signature)
	}
}
