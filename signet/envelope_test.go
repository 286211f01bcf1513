package signet

import (
	"crypto/ed25519"
	"fmt"
	"slices"
	"strings"
	"testing"
	"unsafe"

	"signet/api"
)

// Headers that may be, and nothing more.
var (
	least     = labelled(list(unsigned(1), negative(7)))
	leastTold = "\xa1\x01\x27"
)

// labelled is a map: each list is a label, and behind it what it stands for.
func labelled(pairs ...[]api.Item) []api.Item {
	return append(list(mapItem(uint64(len(pairs)))), slices.Concat(pairs...)...)
}

// toldBytes is what Bytes are written as.
func toldBytes(s string) string {
	return headBytes(2, sizeFor(uint64(len(s))), uint64(len(s))) + s
}

// signedFor is the signature, as Go's library makes it, of what an envelope of these signs.
func signedFor(seed, protected, aad, payload string) string {
	message := "\x84\x6aSignature1" + toldBytes(protected) + toldBytes(aad) + toldBytes(payload)
	return string(ed25519.Sign(ed25519.NewKeyFromSeed([]byte(seed)), []byte(message)))
}

// laid is an envelope, signed well, whatever its headers are.
func laid(seed, protected, unprotected, payload, aad string) string {
	return "\x84" + toldBytes(protected) + unprotected + toldBytes(payload) + toldBytes(signedFor(seed, protected, aad, payload))
}

func shownParts(p api.Parts) string {
	return fmt.Sprintf("{%s; %s; %d bytes %.40q, detached %t, tagged %t}", shown(p.Protected), shown(p.Unprotected), len(p.Payload), p.Payload, p.Detached, p.Tagged)
}

func sameParts(a, b api.Parts) bool {
	return slices.Equal(a.Protected, b.Protected) && slices.Equal(a.Unprotected, b.Unprotected) && a.Payload == b.Payload && a.Detached == b.Detached && a.Tagged == b.Tagged
}

// told is what Open tells of parts that were sealed.
func told(p api.Parts) api.Parts {
	if len(p.Unprotected) == 0 {
		p.Unprotected = list(mapItem(0))
	}
	return p
}

// away is the payload that must be handed in with an envelope of these parts.
func away(p api.Parts) string {
	if p.Detached {
		return p.Payload
	}
	return ""
}

func mustSeal(t *testing.T, seed string, p api.Parts, aad string) string {
	t.Helper()
	s, e := Seal(seed, p, aad)
	if s == "" || e != api.OK {
		t.Fatalf("P11: Seal(%s) = %.100x, %d", shownParts(p), s, e)
	}
	return s
}

func mustNotSeal(t *testing.T, want api.Errno, seed string, p api.Parts, aad string) {
	t.Helper()
	if s, e := Seal(seed, p, aad); s != "" || e != want {
		t.Errorf("P11: Seal(%x, %s, %.40x) = %.100x, %d, want nothing and %d", seed, shownParts(p), aad, s, e, want)
	}
}

func mustOpen(t *testing.T, want api.Parts, key, envelope, payload string, detached bool, aad string) {
	t.Helper()
	p, e := Open(key, envelope, payload, detached, aad)
	if e != api.OK || !sameParts(p, want) {
		t.Errorf("P12: Open(%x, %.40q, %t, %.40q) = %s, %d, want %s", envelope, payload, detached, aad, shownParts(p), e, shownParts(want))
	}
}

func mustNotOpen(t *testing.T, want api.Errno, key, envelope, payload string, detached bool, aad string) {
	t.Helper()
	p, e := Open(key, envelope, payload, detached, aad)
	if e != want || len(p.Protected) > 0 || len(p.Unprotected) > 0 || p.Payload != "" || p.Detached || p.Tagged {
		t.Errorf("P12: Open(%x, %x, %.40q, %t, %.40q) = %s, %d, want nothing and %d", key, envelope, payload, detached, aad, shownParts(p), e, want)
	}
}

// someParts are parts that may be sealed: tagged and not, detached and not, with headers of all kinds.
func someParts() []api.Parts {
	var all []api.Parts
	rich := labelled(list(unsigned(1), negative(7)), list(unsigned(2), array(3), unsigned(4), unsigned(1), unsigned(3)), list(unsigned(3), textItem("text/plain")), list(unsigned(4), byteItem("kid")), list(negative(0), mapItem(1), byteItem("k"), float(1.5)), list(textItem("a"), tag(5), array(0)))
	for _, protected := range [][]api.Item{least, labelled(list(unsigned(1), negative(7)), list(unsigned(3), unsigned(60))), rich} {
		others := labelled(list(unsigned(5), mapItem(1), unsigned(1), byteItem("x")), list(negative(7), simple(22)), list(textItem("b"), unsigned(1)))
		for _, unprotected := range [][]api.Item{nil, {}, labelled(), others, labelled(list(unsigned(99), tag(55), textItem("水")))} {
			for i, payload := range []string{"", "pay", sample(300), "\xf6"} {
				all = append(all, api.Parts{Protected: protected, Unprotected: unprotected, Payload: payload, Detached: i%2 > 0, Tagged: len(all)%3 > 0})
			}
		}
	}
	for i := range 4 {
		all = append(all, api.Parts{Protected: least, Unprotected: labelled(list(unsigned(3), textItem("")), list(unsigned(4), byteItem(""))), Payload: "pay", Detached: i&1 > 0, Tagged: i&2 > 0})
	}
	return all
}

func TestKnownEnvelope(t *testing.T) {
	seed := unhex(t, "9d61b19deffd5a60ba844af492ec2cc44449c5697b326919703bac031cae7f60")
	want := unhex(t, "d28445a201270300a10442313154546869732069732074686520636f6e74656e742e58407142fd2ff96d56db85bee905a76ba1d0b7321a95c8c4d3607c5781932b7afb8711497dfa751bf40b58b3bcc32300b1487f3db34085eef013bf08f4a44d6fef0d")
	p := api.Parts{Protected: labelled(list(unsigned(1), negative(7)), list(unsigned(3), unsigned(0))), Unprotected: labelled(list(unsigned(4), byteItem("11"))), Payload: "This is the content.", Tagged: true}
	if s := mustSeal(t, seed, p, ""); s != want {
		t.Errorf("P11: Seal = %x, want %x", s, want)
	}
	mustOpen(t, p, keyOf(t, seed), want, "", false, "")
}

func TestEnvelopesAreWrittenSo(t *testing.T) {
	seed := seedOf(1)
	for _, p := range someParts() {
		for _, aad := range []string{"", "aad", sample(300)} {
			protected := mustEncode(t, p.Protected...)
			want := "\x84" + toldBytes(protected)
			if p.Tagged {
				want = "\xd2" + want
			}
			want += mustEncode(t, told(p).Unprotected...)
			if p.Detached {
				want += "\xf6"
			} else {
				want += toldBytes(p.Payload)
			}
			want += toldBytes(signedFor(seed, protected, aad, p.Payload))
			if s := mustSeal(t, seed, p, aad); s != want {
				t.Errorf("P11: Seal(%s) = %x, want %x", shownParts(p), s, want)
			}
		}
	}
}

func TestOpenTellsWhatWasSealed(t *testing.T) {
	for n, p := range someParts() {
		seed, aad := seedOf(n), sample(n)
		key, s := keyOf(t, seed), mustSeal(t, seed, p, aad)
		mustOpen(t, told(p), key, s, away(p), p.Detached, aad)
		again := mustSeal(t, seed, told(p), aad)
		if again != s {
			t.Errorf("P13: Seal of what Open tells is %x, want %x", again, s)
		}
	}
}

func TestOpenUnderAnythingElse(t *testing.T) {
	seed := seedOf(1)
	key := keyOf(t, seed)
	for _, p := range someParts()[:24] {
		s := mustSeal(t, seed, p, "aad")
		for _, other := range []string{"", "aa", "aad\x00", "Aad", sample(300)} {
			mustNotOpen(t, api.ErrSignature, key, s, away(p), p.Detached, other)
		}
		for _, other := range []string{keyOf(t, seedOf(2)), neutralKey, zeros, strings.Repeat("\xff", 32), "\x02" + zeros[1:]} {
			mustNotOpen(t, api.ErrSignature, other, s, away(p), p.Detached, "aad")
		}
	}
}

// A payload is handed in where the envelope has none, and only there.
func TestPayloadsElsewhere(t *testing.T) {
	seed := seedOf(1)
	key := keyOf(t, seed)
	for _, p := range someParts() {
		s := mustSeal(t, seed, p, "aad")
		mustNotOpen(t, api.ErrPayload, key, s, p.Payload, !p.Detached, "aad")
		mustNotOpen(t, api.ErrPayload, key, s, "", !p.Detached, "aad")
		for _, other := range []string{"", "x", p.Payload, p.Payload + "\x00", sample(5000)} {
			if !p.Detached || other == p.Payload {
				mustOpen(t, told(p), key, s, other, p.Detached, "aad")
			} else if len(other) < 4096 {
				mustNotOpen(t, api.ErrSignature, key, s, other, true, "aad")
			} else {
				mustNotOpen(t, api.ErrLong, key, s, other, true, "aad")
			}
		}
	}
}

func TestLengthsOfSeedsAndKeys(t *testing.T) {
	seed := seedOf(1)
	p := api.Parts{Protected: least, Payload: "pay"}
	key, s := keyOf(t, seed), mustSeal(t, seed, p, "")
	for _, n := range []int{0, 1, 31, 33, 64, 4097} {
		mustNotSeal(t, api.ErrArg, (seed + sample(n))[:n], p, "")
		mustNotOpen(t, api.ErrArg, (key + sample(n))[:n], s, "", false, "")
	}
	mustOpen(t, told(p), key, s, "", false, "")
}

// What is signed has 4096 bytes, then one more: of the payload, of what else is signed, of the protected headers.
func TestBoundOfWhatIsSigned(t *testing.T) {
	seed := seedOf(1)
	key := keyOf(t, seed)
	const frame = 1 + 11 + 4 + 1 + 1 // the heads of the array, the text, three protected bytes, and of two that have none
	withLabel := func(n int) []api.Item {
		return labelled(list(unsigned(1), negative(7)), list(unsigned(9), byteItem(strings.Repeat("x", n))))
	}
	for _, c := range []struct {
		p   api.Parts
		aad string
	}{
		{api.Parts{Protected: least, Detached: true, Payload: sample(4096 - frame - 2)}, ""},
		{api.Parts{Protected: least, Detached: true, Payload: sample(2000)}, sample(4096 - frame - 2 - 2 - 2000)},
		{api.Parts{Protected: least, Detached: true, Tagged: true, Payload: "pay"}, sample(4096 - frame - 2 - 3)},
		{api.Parts{Protected: least, Payload: "pay"}, sample(4096 - frame - 2 - 3)},
		{api.Parts{Protected: withLabel(3000), Payload: "pay", Tagged: true}, sample(4096 - frame - 2 - 2 - 1 - 3 - 3000 - 3)},
	} {
		s := mustSeal(t, seed, c.p, c.aad)
		mustOpen(t, told(c.p), key, s, away(c.p), c.p.Detached, c.aad)
		mustNotSeal(t, api.ErrLong, seed, c.p, c.aad+"x")
		mustNotOpen(t, api.ErrLong, key, s, away(c.p), c.p.Detached, c.aad+"x")
		if c.p.Detached {
			mustNotOpen(t, api.ErrLong, key, s, c.p.Payload+"x", true, c.aad)
		}
		c.p.Payload += "x"
		mustNotSeal(t, api.ErrLong, seed, c.p, c.aad)
	}
	p := api.Parts{Protected: withLabel(4000), Detached: true, Payload: sample(4096 - 1 - 11 - (3 + 7 + 4000) - 1 - 2)}
	s := mustSeal(t, seed, p, "")
	mustOpen(t, told(p), key, s, p.Payload, true, "")
	p.Protected = withLabel(4001)
	mustNotSeal(t, api.ErrLong, seed, p, "")
	// A signature of what is too long suits, and is not looked at.
	aad := sample(4096)
	mustNotOpen(t, api.ErrLong, key, laid(seed, leastTold, "\xa0", "pay", aad), "", false, aad)
}

// An envelope has 4096 bytes, then one more.
func TestBoundOfEnvelopes(t *testing.T) {
	seed := seedOf(1)
	key := keyOf(t, seed)
	const frame = 1 + 4 + 66 // the array's head, the protected headers, the signature
	for _, p := range []api.Parts{
		{Protected: least, Payload: sample(4096 - frame - 1 - 3)},
		{Protected: least, Payload: sample(4096 - frame - 1 - 3 - 1), Tagged: true},
		{Protected: least, Unprotected: labelled(list(unsigned(9), byteItem(sample(4096-frame-2-3-1)))), Detached: true},
		{Protected: least, Unprotected: labelled(list(unsigned(9), byteItem(sample(4096-frame-2-3-1)))), Payload: ""},
		{Protected: least, Unprotected: labelled(list(unsigned(9), textItem(strings.Repeat("x", 4096-frame-2-3-4-1)))), Payload: "pay", Tagged: true},
	} {
		s := mustSeal(t, seed, p, "aad")
		if len(s) != 4096 {
			t.Errorf("P11: Seal(%s) has %d bytes", shownParts(p), len(s))
		}
		mustOpen(t, told(p), key, s, away(p), p.Detached, "aad")
		mustNotOpen(t, api.ErrLong, key, s+"\x00", away(p), p.Detached, "aad")
		if len(p.Unprotected) > 0 {
			p.Unprotected = slices.Clone(p.Unprotected)
			p.Unprotected[2].S += "x"
		} else {
			p.Payload += "x"
		}
		mustNotSeal(t, api.ErrLong, seed, p, "aad")
	}
	long := laid(seed, leastTold, "\xa0", sample(4096-frame-1-3+1), "")
	if len(long) != 4097 {
		t.Fatalf("the long envelope has %d bytes", len(long))
	}
	mustNotOpen(t, api.ErrLong, key, long, "", false, "")
}

// What is in the unprotected headers lies deeper in an envelope, and has other items beside it; the protected ones are a value of their own.
func TestDepthAndItemsOfEnvelopes(t *testing.T) {
	seed := seedOf(1)
	key := keyOf(t, seed)
	deep := func(n int) []api.Item { return labelled(slices.Concat(list(unsigned(9)), nested(n-1))) }
	wide := func(n int) []api.Item { return labelled(slices.Concat(list(unsigned(9)), flat(n-2))) }
	for _, isTagged := range []bool{false, true} {
		more := map[bool]int{false: 1, true: 2}[isTagged]
		p := api.Parts{Protected: least, Payload: "pay", Tagged: isTagged}
		for _, p.Unprotected = range [][]api.Item{deep(64 - more), wide(600 - 3 - more)} {
			mustOpen(t, told(p), key, mustSeal(t, seed, p, ""), "", false, "")
		}
		for _, n := range []int{64 - more + 1, 64} {
			p.Unprotected = deep(n)
			mustNotSeal(t, api.ErrDepth, seed, p, "")
		}
		for _, n := range []int{600 - 3 - more + 1, 600} {
			p.Unprotected = wide(n)
			mustNotSeal(t, api.ErrLong, seed, p, "")
		}
		for _, p.Unprotected = range [][]api.Item{deep(65), wide(601)} {
			mustNotSeal(t, api.ErrHeader, seed, p, "")
		}
		p.Unprotected = nil
		first := list(mapItem(2), unsigned(1), negative(7), unsigned(9))
		for _, p.Protected = range [][]api.Item{append(slices.Clone(first), nested(63)...), append(slices.Clone(first), flat(596)...)} {
			mustOpen(t, told(p), key, mustSeal(t, seed, p, ""), "", false, "")
		}
		for _, p.Protected = range [][]api.Item{append(slices.Clone(first), nested(64)...), append(slices.Clone(first), flat(597)...)} {
			mustNotSeal(t, api.ErrHeader, seed, p, "")
			mustNotOpen(t, api.ErrHeader, key, laid(seed, toldItems(p.Protected), "\xa0", "pay", ""), "", false, "")
		}
	}
}

// mayBeHeaders are headers that may be, protected and not.
func mayBeHeaders() [][2][]api.Item {
	one := list(unsigned(1), negative(7))
	return [][2][]api.Item{
		{least, labelled()},
		{labelled(list(unsigned(0), simple(22)), one), labelled()},
		{labelled(one, list(unsigned(2), array(1), unsigned(1))), labelled()},
		{labelled(one, list(unsigned(2), array(1), unsigned(3)), list(unsigned(3), unsigned(0))), labelled()},
		{labelled(one, list(unsigned(2), array(1), unsigned(4)), list(unsigned(4), byteItem(""))), labelled()},
		{labelled(one, list(unsigned(2), array(4), unsigned(4), unsigned(3), unsigned(1), unsigned(4)), list(unsigned(3), textItem("")), list(unsigned(4), byteItem("k"))), labelled()},
		{labelled(one, list(unsigned(3), unsigned(1<<64-1))), labelled(list(unsigned(4), byteItem("k")))},
		{labelled(one, list(unsigned(4), byteItem("k"))), labelled(list(unsigned(3), textItem("水")))},
		{least, labelled(list(unsigned(3), unsigned(7)), list(unsigned(4), byteItem(sample(30))))},
		{least, labelled(list(negative(0), unsigned(1)), list(negative(1), unsigned(1)), list(negative(2), unsigned(1)), list(negative(3), unsigned(1)))},
		{labelled(one, list(negative(0), unsigned(1)), list(negative(1), simple(20)), list(negative(2), byteItem("")), list(negative(3), textItem(""))), labelled()},
		{labelled(one, list(textItem("1"), unsigned(1)), list(textItem("2"), unsigned(1))), labelled(list(textItem("3"), byteItem("")), list(textItem("4"), textItem("")))},
		{labelled(one, list(negative(8), unsigned(1)), list(textItem(""), array(0))), labelled(list(unsigned(8), unsigned(1)), list(textItem("a"), array(0)))},
		{labelled(one, list(unsigned(9), mapItem(1), byteItem("any"), simple(22))), labelled(list(unsigned(10), array(2), array(0), mapItem(0)), list(unsigned(1<<40), tag(24), byteItem("\x01")))},
		{labelled(one, list(unsigned(5), mapItem(2), unsigned(2), unsigned(0), unsigned(4), unsigned(0))), labelled(list(unsigned(6), mapItem(1), unsigned(2), unsigned(0)))},
	}
}

// mayNotBeHeaders are values that may not be the headers of an envelope.
func mayNotBeHeaders() [][2][]api.Item {
	one := list(unsigned(1), negative(7))
	four := list(unsigned(4), byteItem("k"))
	all := [][2][]api.Item{
		// No map.
		{list(unsigned(1)), labelled()}, {list(array(1), unsigned(1)), labelled()}, {list(byteItem("\xa1\x01\x27")), labelled()}, {list(simple(22)), labelled()},
		{append(list(tag(5)), least...), labelled()}, {append(list(array(1)), least...), labelled()}, {append(list(tag(55799)), least...), labelled()},
		// No label.
		{labelled(one, list(byteItem("x"), unsigned(1))), labelled()}, {labelled(one, list(array(0), unsigned(1))), labelled()}, {labelled(one, list(mapItem(0), unsigned(1))), labelled()}, {labelled(one, list(tag(5), unsigned(9), unsigned(1))), labelled()}, {labelled(one, list(simple(22), unsigned(1))), labelled()}, {labelled(one, list(float(9), unsigned(1))), labelled()},
		{least, labelled(list(byteItem("x"), unsigned(1)))}, {least, labelled(list(array(1), unsigned(1), unsigned(1)))}, {least, labelled(list(simple(20), unsigned(1)))}, {least, labelled(list(float(1), unsigned(1)))}, {least, labelled(list(tag(9), textItem("a"), unsigned(1)))},
		// In both.
		{least, least}, {least, labelled(list(unsigned(1), unsigned(7)))}, {labelled(one, four), labelled(four)}, {labelled(one, four), labelled(list(unsigned(4), byteItem("other")))}, {labelled(one, list(negative(0), unsigned(1))), labelled(list(negative(0), unsigned(2)))}, {labelled(one, list(textItem("a"), unsigned(1))), labelled(list(unsigned(9), unsigned(1)), list(textItem("a"), unsigned(2)))}, {labelled(one, list(unsigned(9), unsigned(1))), labelled(list(unsigned(0), unsigned(1)), list(unsigned(9), unsigned(1)), list(unsigned(10), unsigned(1)))},
		// 1: missing, in the wrong place, something else.
		{labelled(), labelled()}, {labelled(four), labelled()}, {labelled(), least}, {labelled(four), least}, {labelled(list(negative(0), negative(7))), labelled()}, {labelled(list(negative(1), negative(7))), labelled()}, {labelled(list(textItem("1"), negative(7))), labelled()},
		{labelled(list(unsigned(1), negative(6))), labelled()}, {labelled(list(unsigned(1), negative(8))), labelled()}, {labelled(list(unsigned(1), unsigned(7))), labelled()}, {labelled(list(unsigned(1), unsigned(8))), labelled()}, {labelled(list(unsigned(1), textItem("EdDSA"))), labelled()}, {labelled(list(unsigned(1), array(1), negative(7))), labelled()}, {labelled(list(unsigned(1), tag(5), negative(7))), labelled()}, {labelled(list(unsigned(1), float(-8))), labelled()}, {labelled(list(unsigned(1), simple(7))), labelled()},
		// 2: in the wrong place, empty, no Array, something else in it, what is not there.
		{least, labelled(list(unsigned(2), array(1), unsigned(1)))}, {labelled(one, four), labelled(list(unsigned(2), array(1), unsigned(4)))}, {least, labelled(list(unsigned(2), unsigned(1)))}, {labelled(one, list(unsigned(2), array(1), unsigned(1))), labelled(list(unsigned(2), array(1), unsigned(1)))},
		{labelled(one, list(unsigned(2), array(0))), labelled()}, {labelled(one, list(unsigned(2), unsigned(1))), labelled()}, {labelled(one, list(unsigned(2), mapItem(0))), labelled()}, {labelled(one, list(unsigned(2), mapItem(1), unsigned(1), unsigned(1))), labelled()}, {labelled(one, list(unsigned(2), tag(5), array(1), unsigned(1))), labelled()}, {labelled(one, list(unsigned(2), byteItem("\x01"))), labelled()}, {labelled(one, list(unsigned(2), simple(22))), labelled()},
		{labelled(one, list(unsigned(2), array(1), unsigned(2))), labelled()}, {labelled(one, list(unsigned(2), array(2), unsigned(1), unsigned(2))), labelled()}, {labelled(one, list(unsigned(2), array(1), unsigned(0))), labelled()}, {labelled(list(unsigned(0), unsigned(0)), one, list(unsigned(2), array(1), unsigned(0))), labelled()}, {labelled(one, list(unsigned(2), array(1), unsigned(5)), list(unsigned(5), unsigned(0))), labelled()}, {labelled(one, list(unsigned(2), array(1), negative(0)), list(negative(0), unsigned(0))), labelled()}, {labelled(one, list(unsigned(2), array(1), negative(1)), list(negative(1), unsigned(0))), labelled()}, {labelled(one, list(unsigned(2), array(1), negative(3)), list(unsigned(4), byteItem("k")), list(negative(3), unsigned(0))), labelled()}, {labelled(one, list(unsigned(2), array(1), textItem("a")), list(textItem("a"), unsigned(0))), labelled()}, {labelled(one, list(unsigned(2), array(1), array(1), unsigned(1))), labelled()}, {labelled(one, list(unsigned(2), array(2), unsigned(1), array(0))), labelled()}, {labelled(one, list(unsigned(2), array(1), tag(5), unsigned(1))), labelled()}, {labelled(one, list(unsigned(2), array(1), float(1))), labelled()}, {labelled(one, list(unsigned(2), array(1), mapItem(1), unsigned(1), unsigned(1))), labelled()},
		{labelled(one, list(unsigned(2), array(1), unsigned(3))), labelled()}, {labelled(one, list(unsigned(2), array(1), unsigned(4))), labelled()}, {labelled(one, list(unsigned(2), array(1), unsigned(4))), labelled(four)}, {labelled(one, list(unsigned(2), array(2), unsigned(1), unsigned(3)), four), labelled()}, {labelled(one, list(unsigned(2), array(1), unsigned(3)), list(negative(2), unsigned(0))), labelled()}, {labelled(one, list(unsigned(2), array(1), unsigned(3)), list(unsigned(9), mapItem(1), unsigned(3), unsigned(0))), labelled()},
		// A map among the headers is none of them.
		{labelled(list(unsigned(0), mapItem(1), unsigned(1), negative(7))), labelled()}, {append(list(mapItem(1), unsigned(0)), least...), labelled()},
	}
	// 3 and 4, wherever they are.
	for _, wrong := range [][]api.Item{list(negative(0)), list(byteItem("t")), list(array(1), unsigned(1)), list(mapItem(0)), list(simple(22)), list(float(1)), list(tag(5), textItem("t"))} {
		three := append(list(unsigned(3)), wrong...)
		all = append(all, [2][]api.Item{labelled(one, three), labelled()}, [2][]api.Item{least, labelled(three)}, [2][]api.Item{labelled(one, three, four), labelled()}, [2][]api.Item{least, labelled(three, four)})
	}
	for _, wrong := range [][]api.Item{list(unsigned(0)), list(negative(0)), list(textItem("k")), list(array(1), byteItem("k")), list(mapItem(0)), list(simple(22)), list(float(1)), list(tag(24), byteItem("\x01"))} {
		wrongFour := append(list(unsigned(4)), wrong...)
		all = append(all, [2][]api.Item{labelled(one, wrongFour), labelled()}, [2][]api.Item{least, labelled(wrongFour)}, [2][]api.Item{labelled(one, list(unsigned(3), textItem("t"))), labelled(wrongFour)})
	}
	return all
}

func TestHeadersThatMayBe(t *testing.T) {
	seed := seedOf(1)
	key := keyOf(t, seed)
	for _, h := range mayBeHeaders() {
		p := api.Parts{Protected: h[0], Unprotected: h[1], Payload: "pay"}
		s := mustSeal(t, seed, p, "aad")
		if want := laid(seed, toldItems(h[0]), toldItems(h[1]), "pay", "aad"); s != want {
			t.Errorf("P11: Seal(%s) = %x, want %x", shownParts(p), s, want)
		}
		mustOpen(t, p, key, s, "", false, "aad")
	}
}

func TestHeadersThatMayNotBe(t *testing.T) {
	seed := seedOf(1)
	key := keyOf(t, seed)
	for _, h := range mayNotBeHeaders() {
		p := api.Parts{Protected: h[0], Unprotected: h[1], Payload: "pay"}
		mustEncode(t, h[0]...)
		mustNotSeal(t, api.ErrHeader, seed, p, "aad")
		s := laid(seed, toldItems(h[0]), toldItems(h[1]), "pay", "aad")
		mustNotOpen(t, api.ErrHeader, key, s, "", false, "aad")
		mustNotOpen(t, api.ErrHeader, key, "\xd2"+s, "", false, "aad")
	}
	for _, empty := range [][]api.Item{nil, {}} {
		mustNotSeal(t, api.ErrHeader, seed, api.Parts{Protected: empty}, "")
		mustNotSeal(t, api.ErrHeader, seed, api.Parts{Protected: empty, Unprotected: least}, "")
	}
}

// Unprotected headers that are no map make something that is no envelope, but Seal has no shape to look at.
func TestUnprotectedThatAreNoMap(t *testing.T) {
	seed := seedOf(1)
	for _, value := range someValues() {
		if value[0].Kind == api.Map {
			continue
		}
		mustNotSeal(t, api.ErrHeader, seed, api.Parts{Protected: least, Unprotected: value}, "")
		mustNotOpen(t, api.ErrShape, keyOf(t, seed), laid(seed, leastTold, toldItems(value), "pay", ""), "", false, "")
	}
}

func TestHeadersThatEncodeRefuses(t *testing.T) {
	seed := seedOf(1)
	for _, wrong := range [][]api.Item{
		least[:2], least[:1], append(slices.Clone(least), unsigned(1)), {{Kind: -1}}, {{Kind: 9}}, {{Kind: api.Map, S: "x"}},
		labelled(list(unsigned(1), negative(7)), list(unsigned(9), simple(24))), labelled(list(unsigned(1), negative(7)), list(unsigned(9), floatBits(noNumber+1))), labelled(list(unsigned(1), negative(7)), list(unsigned(9), textItem("\xff"))),
		labelled(list(unsigned(4), byteItem("k")), list(unsigned(1), negative(7))), labelled(list(unsigned(1), negative(7)), list(unsigned(1), negative(7))), labelled(list(unsigned(1), negative(7)), list(unsigned(9), mapItem(2), unsigned(2), unsigned(1), unsigned(1), unsigned(1))),
		labelled(list(unsigned(1), negative(7)), list(unsigned(9), tag(0), unsigned(1))), labelled(list(unsigned(1), negative(7)), list(unsigned(9), tag(55799), unsigned(1))),
		labelled(list(unsigned(1), negative(7)), list(unsigned(9), byteItem(sample(4096)))), {mapItem(1 << 63)}, append(list(mapItem(1<<63)), least[1:]...), slices.Repeat(least, 201),
	} {
		if _, e := Encode(wrong); e == api.OK {
			t.Fatalf("P8: Encode takes %s", shown(wrong))
		}
		mustNotSeal(t, api.ErrHeader, seed, api.Parts{Protected: wrong, Payload: "pay"}, "")
	}
	for _, wrong := range [][]api.Item{
		labelled(list(unsigned(9), unsigned(1)))[:2], append(labelled(), unsigned(1)), append(labelled(), labelled()...), labelled(list(unsigned(9), simple(24))), labelled(list(textItem("\xff"), unsigned(1))), labelled(list(unsigned(9), unsigned(1)), list(unsigned(8), unsigned(1))), labelled(list(unsigned(9), tag(2), byteItem("x"))), labelled(list(unsigned(9), byteItem(sample(4096)))), {{Kind: 9}}, slices.Repeat(labelled(), 601),
	} {
		if _, e := Encode(wrong); e == api.OK {
			t.Fatalf("P8: Encode takes %s", shown(wrong))
		}
		mustNotSeal(t, api.ErrHeader, seed, api.Parts{Protected: least, Unprotected: wrong, Payload: "pay"}, "")
	}
}

func TestProtectedBytesThatDecodeRefuses(t *testing.T) {
	seed := seedOf(1)
	key := keyOf(t, seed)
	for _, wrong := range []string{"", "\xa1", "\xa1\x01", "\xa1\x01\x27\x00", "\xa0", "\xb8\x01\x01\x27", "\xa1\x18\x01\x27", "\xa1\x01\x38\x07", "\xbf\x01\x27\xff", "\xa2\x01\x27\x01\x27", "\xa2\x03\x00\x01\x27", "\xa2\x01\x27\x09\x1c", "\xa2\x01\x27\x09\xf8\x18", "\xa2\x01\x27\x09\x61\xff", "\xa2\x01\x27\x09\xc0\x01", "\xa2\x01\x27\x09\xfa\x3f\xc0\x00\x00", "\xff"} {
		mustNotOpen(t, api.ErrHeader, key, laid(seed, wrong, "\xa0", "pay", ""), "", false, "")
		mustNotOpen(t, api.ErrHeader, key, "\xd2"+laid(seed, wrong, "\xa0", "pay", ""), "", false, "")
	}
}

func TestShapesThatAreNone(t *testing.T) {
	seed := seedOf(1)
	key := keyOf(t, seed)
	good := []string{toldBytes(leastTold), "\xa0", "\x43pay", toldBytes(signedFor(seed, leastTold, "", "pay"))}
	mustOpen(t, told(api.Parts{Protected: least, Payload: "pay"}), key, "\x84"+strings.Join(good, ""), "", false, "")
	// Anything else in each place.
	for place := range good {
		for _, value := range someValues() {
			first := value[0]
			if place == 0 && first.Kind == api.Bytes || place == 1 && first.Kind == api.Map || place == 2 && (first.Kind == api.Bytes || first == simple(22)) {
				continue
			}
			other := slices.Clone(good)
			other[place] = toldItems(value)
			mustNotOpen(t, api.ErrShape, key, "\x84"+strings.Join(other, ""), "", false, "")
			mustNotOpen(t, api.ErrShape, key, "\xd2\x84"+strings.Join(other, ""), "", false, "")
		}
	}
	for _, payload := range []string{"\xf4", "\xf5", "\xf7", "\xe0", "\xf8\x20", "\x60", "\x63pay", "\x80", "\x81\x43pay", "\xa0", "\xc5\x43pay", "\xc5\xf6", "\x16"} {
		mustNotOpen(t, api.ErrShape, key, "\x84"+good[0]+good[1]+payload+good[3], "pay", true, "")
	}
	// Another number of items, another thing than an Array.
	mustNotOpen(t, api.ErrShape, key, "\x80", "", false, "")
	mustNotOpen(t, api.ErrShape, key, "\x83"+strings.Join(good[:3], ""), "", false, "")
	mustNotOpen(t, api.ErrShape, key, "\x85"+strings.Join(good, "")+"\x00", "", false, "")
	mustNotOpen(t, api.ErrShape, key, "\x85"+strings.Join(good, "")+"\xf6", "", false, "")
	mustNotOpen(t, api.ErrShape, key, "\xa2"+good[2]+good[1]+good[0]+good[3], "", false, "")
	mustNotOpen(t, api.ErrShape, key, "\x81\x84"+strings.Join(good, ""), "", false, "")
	for _, value := range someValues() {
		mustNotOpen(t, api.ErrShape, key, toldItems(value), "", false, "")
	}
}

func TestTagsOfEnvelopes(t *testing.T) {
	seed := seedOf(1)
	key := keyOf(t, seed)
	p := told(api.Parts{Protected: least, Payload: "pay"})
	s := laid(seed, leastTold, "\xa0", "pay", "")
	mustOpen(t, p, key, s, "", false, "")
	p.Tagged = true
	mustOpen(t, p, key, "\xd2"+s, "", false, "")
	for _, ahead := range []string{"\xd1", "\xd3", "\xc5", "\xd8\x62", "\xd9\xd9\xf7", "\xd9\xd9\xf7\xd2", "\xc5\xd2", "\xda\x00\x01\x00\x12"} {
		mustNotOpen(t, api.ErrShape, key, ahead+s, "", false, "")
	}
	for _, ahead := range []string{"\xd2\xd2", "\xd2\xc5", "\xd2\xd9\xd9\xf7", "\xc0", "\xc1", "\xc2", "\xd8\x18", "\xd8\x20"} {
		mustNotOpen(t, api.ErrTag, key, ahead+s, "", false, "")
	}
	mustNotOpen(t, api.ErrShortest, key, "\xd8\x12"+s, "", false, "")
	mustNotOpen(t, api.ErrTag, key, "\xd2\x83"+s[1:len(s)-66], "", false, "")
}

func TestSignaturesOfOtherLengths(t *testing.T) {
	seed := seedOf(1)
	key := keyOf(t, seed)
	signature := signedFor(seed, leastTold, "", "pay")
	ahead := "\x84" + toldBytes(leastTold) + "\xa0\x43pay"
	for _, n := range []int{0, 1, 32, 63, 65, 128} {
		mustNotOpen(t, api.ErrShape, key, ahead+toldBytes((signature + signature)[:n]), "", false, "")
	}
	mustOpen(t, told(api.Parts{Protected: least, Payload: "pay"}), key, ahead+toldBytes(signature), "", false, "")
	mustNotOpen(t, api.ErrShape, key, ahead+headBytes(3, 1, 64)+strings.Repeat("s", 64), "", false, "")
	// The second half has one form only.
	more := numberIn(signature[32:])
	more.Add(more, orderOfKey)
	mustNotOpen(t, api.ErrSignature, key, ahead+toldBytes(signature[:32]+lowestFirst(more)), "", false, "")
}

func TestByteMoreOrLess(t *testing.T) {
	seed := seedOf(1)
	key := keyOf(t, seed)
	for _, p := range someParts()[:20] {
		s := mustSeal(t, seed, p, "aad")
		for cut := range s {
			mustNotOpen(t, api.ErrTruncated, key, s[:cut], away(p), p.Detached, "aad")
		}
		for b := range 256 {
			mustNotOpen(t, api.ErrTrailing, key, s+string([]byte{byte(b)}), away(p), p.Detached, "aad")
		}
		mustNotOpen(t, api.ErrTrailing, key, s+s, away(p), p.Detached, "aad")
	}
}

// turned is s with one bit turned.
func turned(s string, bit int) string {
	out := []byte(s)
	out[bit/8] ^= 1 << (bit % 8)
	return string(out)
}

// Whatever bit is turned: what was signed is not taken, and all that is taken is told, and is written in no other way.
func TestTurnedBits(t *testing.T) {
	seed := seedOf(1)
	key := keyOf(t, seed)
	for _, p := range []api.Parts{
		{Protected: labelled(list(unsigned(1), negative(7)), list(textItem("p"), byteItem("protected"))), Unprotected: labelled(list(unsigned(9), textItem("unprotected"))), Payload: "pay", Tagged: true},
		{Protected: least, Unprotected: labelled(list(unsigned(4), byteItem("kid"))), Payload: "pay", Detached: true},
	} {
		s := mustSeal(t, seed, p, "aad")
		taken := 0
		for bit := range 8 * len(s) {
			other := turned(s, bit)
			q, e := Open(key, other, away(p), p.Detached, "aad")
			if e != api.OK {
				continue
			}
			taken++
			if !slices.Equal(q.Protected, p.Protected) || q.Payload != p.Payload || q.Detached != p.Detached || q.Tagged != p.Tagged || slices.Equal(q.Unprotected, p.Unprotected) {
				t.Errorf("P13: %x is taken for %s", other, shownParts(q))
			}
			if again := mustSeal(t, seed, q, "aad"); again != other {
				t.Errorf("P13: %x and %x have the same parts and the same signature", other, again)
			}
		}
		if taken == 0 {
			t.Errorf("P12: the unprotected headers cannot be changed")
		}
	}
}

// Each part by itself, with a bit turned.
func TestTurnedBitsOfEachPart(t *testing.T) {
	seed := seedOf(1)
	key := keyOf(t, seed)
	protected := "\xa2\x01\x27\x09\x44kept"
	unprotected := "\xa1\x0a\x44also"
	signature := signedFor(seed, protected, "aad", "payload")
	put := func(protected, unprotected, payload, signature string) string {
		return "\x84" + toldBytes(protected) + unprotected + payload + toldBytes(signature)
	}
	for bit := range 8 * 4 {
		other := protected[:5] + turned(protected[5:], bit)
		mustNotOpen(t, api.ErrSignature, key, put(other, unprotected, "\x47payload", signature), "", false, "aad")
		p := api.Parts{Protected: labelled(list(unsigned(1), negative(7)), list(unsigned(9), byteItem("kept"))), Payload: "payload"}
		p.Unprotected = labelled(list(unsigned(10), byteItem(turned("also", bit))))
		mustOpen(t, p, key, put(protected, unprotected[:3]+turned("also", bit), "\x47payload", signature), "", false, "aad")
	}
	for bit := range 8 * len("payload") {
		mustNotOpen(t, api.ErrSignature, key, put(protected, unprotected, "\x47"+turned("payload", bit), signature), "", false, "aad")
		mustNotOpen(t, api.ErrSignature, key, put(protected, unprotected, "\xf6", signature), turned("payload", bit), true, "aad")
	}
	for bit := range 8 * 64 {
		mustNotOpen(t, api.ErrSignature, key, put(protected, unprotected, "\x47payload", turned(signature, bit)), "", false, "aad")
	}
	good := put(protected, unprotected, "\x47payload", signature)
	for bit := range 8 * 3 {
		mustNotOpen(t, api.ErrSignature, key, good, "", false, turned("aad", bit))
	}
	for bit := range 8 * 32 {
		mustNotOpen(t, api.ErrSignature, turned(key, bit), good, "", false, "aad")
	}
}

// Bytes move from one part that is signed into another, and are not the same.
func TestPartsAreSignedApart(t *testing.T) {
	seed := seedOf(1)
	key := keyOf(t, seed)
	p := api.Parts{Protected: least, Payload: "bc", Detached: true}
	s := mustSeal(t, seed, p, "a")
	mustNotOpen(t, api.ErrSignature, key, s, "c", true, "ab")
	mustNotOpen(t, api.ErrSignature, key, s, "abc", true, "")
	mustNotOpen(t, api.ErrSignature, key, s, "", true, "abc")
	mustNotOpen(t, api.ErrSignature, key, s, "a", true, "bc")
	// A signature of the payload alone is none of the envelope.
	alone := "\x84" + toldBytes(leastTold) + "\xa0\x42bc" + toldBytes(signatureOf(t, seed, "bc"))
	mustNotOpen(t, api.ErrSignature, key, alone, "", false, "")
}

func TestFirstErrorOfSeal(t *testing.T) {
	seed := seedOf(1)
	refused, long := least[:2], sample(5000)
	deep := labelled(slices.Concat(list(unsigned(9)), nested(63)))
	wide := labelled(slices.Concat(list(unsigned(9)), flat(598)))
	both := labelled(slices.Concat(list(unsigned(9), array(2)), flat(533), nested(62)))
	for _, p := range []api.Parts{{}, {Protected: refused}, {Protected: least, Unprotected: least}, {Protected: least, Payload: long}, {Protected: least, Unprotected: deep}} {
		mustNotSeal(t, api.ErrArg, seed[1:], p, long)
	}
	for _, p := range []api.Parts{{}, {Protected: refused}, {Protected: least, Unprotected: least}, {Protected: least, Unprotected: refused}} {
		p.Payload = long
		mustNotSeal(t, api.ErrHeader, seed, p, long)
	}
	mustNotSeal(t, api.ErrHeader, seed, api.Parts{Unprotected: deep, Payload: long}, "")
	for _, unprotected := range [][]api.Item{deep, wide, both} {
		p := api.Parts{Protected: least, Unprotected: unprotected, Payload: long}
		mustNotSeal(t, api.ErrLong, seed, p, "")
		p.Payload = ""
		mustNotSeal(t, api.ErrLong, seed, p, long)
	}
	mustNotSeal(t, api.ErrDepth, seed, api.Parts{Protected: least, Unprotected: deep}, "")
	mustNotSeal(t, api.ErrDepth, seed, api.Parts{Protected: least, Unprotected: deep, Payload: sample(4060)}, "")
	mustNotSeal(t, api.ErrLong, seed, api.Parts{Protected: least, Unprotected: both}, "")
}

func TestFirstErrorOfOpen(t *testing.T) {
	seed := seedOf(1)
	key, long := keyOf(t, seed), sample(5000)
	signature := toldBytes(strings.Repeat("s", 64))
	const noHeaders, wrongShape = "\x84\x41\xa0\xa0", "\x84\x41\xa0\xa0\xf7"
	// ErrArg ahead of all that may be wrong with the envelope.
	for _, s := range []string{"", long, "\x1c", "\x01", wrongShape + signature, noHeaders + "\xf6" + signature, laid(seed, leastTold, "\xa0", "", "")} {
		mustNotOpen(t, api.ErrArg, key[1:], s, long, false, long)
		mustNotOpen(t, api.ErrArg, key+"\x00", s, long, true, long)
	}
	// What Decode says, ahead of the shape.
	mustNotOpen(t, api.ErrLong, key, long, long, true, long)
	for s, want := range map[string]api.Errno{"": api.ErrTruncated, "\x01\x01": api.ErrTrailing, "\x1c": api.ErrReserved, "\x9f\xff": api.ErrIndefinite, "\x18\x01": api.ErrShortest, "\x81\xfa\x3f\xc0\x00\x00": api.ErrFloat, "\x61\xff": api.ErrText, strings.Repeat("\x81", 64) + "\x01": api.ErrDepth, "\xa2\x01\x01\x01\x01": api.ErrOrder, "\xd2\x83\x01\x01\x01": api.ErrTag} {
		mustNotOpen(t, want, key, s, long, true, long)
	}
	mustNotOpen(t, api.ErrOrder, key, "\x84\x41\xa0\xa2\x01\x01\x01\x01\xf7"+signature, "", true, "")
	mustNotOpen(t, api.ErrTag, key, "\x84\x41\xa0\xa1\x09\xc0\x01\xf7"+signature, "", true, "")
	mustNotOpen(t, api.ErrTrailing, key, wrongShape+signature+"\x00", "", true, "")
	// The shape, ahead of the headers.
	mustNotOpen(t, api.ErrShape, key, wrongShape+signature, long, true, long)
	mustNotOpen(t, api.ErrShape, key, noHeaders+"\xf6\x41s", long, false, long)
	mustNotOpen(t, api.ErrShape, key, "\x84\x40\x80\xf6"+signature, long, false, long)
	// The headers, ahead of where the payload is.
	mustNotOpen(t, api.ErrHeader, key, noHeaders+"\xf6"+signature, long, false, long)
	mustNotOpen(t, api.ErrHeader, key, noHeaders+"\x40"+signature, long, true, long)
	mustNotOpen(t, api.ErrHeader, key, "\x84\x40\xa0\xf6"+signature, long, false, long)
	// Where the payload is, ahead of how much is signed.
	good := "\x84" + toldBytes(leastTold) + "\xa0"
	mustNotOpen(t, api.ErrPayload, key, good+"\xf6"+signature, long, false, long)
	mustNotOpen(t, api.ErrPayload, key, good+"\x40"+signature, long, true, long)
	// How much is signed, ahead of the signature; a payload that is not looked at is not counted.
	mustNotOpen(t, api.ErrLong, key, good+"\xf6"+signature, long, true, "")
	mustNotOpen(t, api.ErrLong, key, good+"\xf6"+signature, "", true, long)
	mustNotOpen(t, api.ErrLong, key, good+"\x40"+signature, "", false, long)
	mustNotOpen(t, api.ErrLong, strings.Repeat("\xff", 32), good+"\x40"+signature, "", false, long)
	mustNotOpen(t, api.ErrSignature, key, good+"\x40"+signature, long, false, "")
	mustNotOpen(t, api.ErrSignature, key, good+"\xf6"+signature, "", true, "")
}

// Lists with room behind them show whether anything is written there.
func TestPartsAreNotWrittenInto(t *testing.T) {
	seed := seedOf(1)
	for _, p := range someParts() {
		room := func(l []api.Item) []api.Item {
			return append(slices.Clone(l), slices.Repeat(list(textItem("room")), 10)...)
		}
		protected, unprotected := room(p.Protected), room(p.Unprotected)
		wantProtected, wantUnprotected := slices.Clone(protected), slices.Clone(unprotected)
		given := p
		given.Protected, given.Unprotected = protected[:len(p.Protected)], unprotected[:len(p.Unprotected)]
		s := mustSeal(t, seed, given, "aad")
		if !slices.Equal(protected, wantProtected) || !slices.Equal(unprotected, wantUnprotected) {
			t.Fatalf("P2: Seal wrote into the headers of %s", shownParts(p))
		}
		clear(protected)
		clear(unprotected)
		if s != mustSeal(t, seed, p, "aad") {
			t.Errorf("P2: what Seal answered hangs on memory of the headers")
		}
	}
}

func TestPartsAreNewMemory(t *testing.T) {
	seed := seedOf(1)
	key := keyOf(t, seed)
	for _, p := range someParts() {
		s := mustSeal(t, seed, p, "aad")
		first, _ := Open(key, s, away(p), p.Detached, "aad")
		second, _ := Open(key, s, away(p), p.Detached, "aad")
		for _, text := range []string{s, away(p)} {
			if overlap(first.Payload, text) {
				t.Errorf("P2: Open keeps the bytes of an argument in the payload")
			}
			for _, item := range slices.Concat(first.Protected, first.Unprotected) {
				if overlap(item.S, text) {
					t.Errorf("P2: Open keeps the bytes of an argument in %v", item)
				}
			}
		}
		clear(first.Protected[:cap(first.Protected)])
		if !slices.Equal(first.Unprotected, told(p).Unprotected) {
			t.Errorf("P2: the two lists of one answer share memory")
		}
		clear(first.Unprotected[:cap(first.Unprotected)])
		if !sameParts(second, told(p)) {
			t.Errorf("P2: two answers share memory: %s", shownParts(second))
		}
		clear(second.Unprotected[:cap(second.Unprotected)])
		if !slices.Equal(second.Protected, p.Protected) {
			t.Errorf("P2: the two lists of one answer share memory")
		}
		mustOpen(t, told(p), key, s, away(p), p.Detached, "aad")
	}
}

// Texts over memory that changes later show whether pieces of them are in the answers.
func TestEnvelopeAndPayloadAreNotKept(t *testing.T) {
	seed := seedOf(1)
	for _, p := range someParts() {
		s := mustSeal(t, seed, p, "aad")
		whole := keyOf(t, seed) + s + away(p) + "aad"
		memory := []byte(whole)
		text := unsafe.String(&memory[0], len(memory))
		end := len(text) - 3
		got, e := Open(text[:32], text[32:32+len(s)], text[32+len(s):end], p.Detached, text[end:])
		if string(memory) != whole {
			t.Fatalf("P2: what was handed in was written into")
		}
		clear(memory)
		if e != api.OK || !sameParts(got, told(p)) {
			t.Errorf("P2: what Open answered has become %s, %d", shownParts(got), e)
		}
	}
}

func TestSealedIsNewMemory(t *testing.T) {
	seed := seedOf(1)
	memory := []byte(seed + "payload" + "aad")
	text := unsafe.String(&memory[0], len(memory))
	p := api.Parts{Protected: least, Payload: text[32:39]}
	s := mustSeal(t, text[:32], p, text[39:])
	clear(memory)
	if want := laid(seed, leastTold, "\xa0", "payload", "aad"); s != want {
		t.Errorf("P2: what Seal answered has become %x, want %x", s, want)
	}
}

// Texts of any length come in: what is too long is neither written nor signed.
func TestLongTextsInEnvelopes(t *testing.T) {
	seed := seedOf(1)
	key, long := keyOf(t, seed), strings.Repeat("x", 1<<26)
	mustNotSeal(t, api.ErrLong, seed, api.Parts{Protected: least, Payload: long}, long)
	mustNotSeal(t, api.ErrLong, seed, api.Parts{Protected: least, Payload: long, Detached: true}, "")
	mustNotSeal(t, api.ErrLong, seed, api.Parts{Protected: least}, long)
	mustNotSeal(t, api.ErrHeader, seed, api.Parts{Protected: least, Unprotected: labelled(list(unsigned(9), byteItem(long)))}, "")
	mustNotSeal(t, api.ErrArg, long, api.Parts{Protected: least}, "")
	s := mustSeal(t, seed, api.Parts{Protected: least, Detached: true}, "")
	mustNotOpen(t, api.ErrLong, key, s, long, true, "")
	mustNotOpen(t, api.ErrLong, key, s, "", true, long)
	mustNotOpen(t, api.ErrLong, key, long, "", true, "")
	s = mustSeal(t, seed, api.Parts{Protected: least}, "")
	mustOpen(t, told(api.Parts{Protected: least}), key, s, long, false, "")
}
