package signet

import (
	"math/rand"
	"slices"
	"sort"
	"strings"
	"testing"

	"signet/api"
)

// toldItems is what items are written as, one behind the other, whether or not they are a value.
func toldItems(items []api.Item) string {
	var out strings.Builder
	for _, item := range items {
		out.WriteString(judgedItem(item))
	}
	return out.String()
}

// node is a value as a tree.
type node struct {
	item api.Item
	in   []node
	all  []api.Item
}

// treeOf is the tree with which items begin, and the items behind it.
func treeOf(items []api.Item) (node, []api.Item) {
	n, rest := node{item: items[0]}, items[1:]
	count := map[int]uint64{api.Array: n.item.N, api.Map: 2 * n.item.N, api.Tag: 1}[n.item.Kind]
	for range count {
		var one node
		one, rest = treeOf(rest)
		n.in = append(n.in, one)
	}
	n.all = items[:len(items)-len(rest)]
	return n, rest
}

// judgedHeaders says whether headers may be, by the document's words one after the other.
func judgedHeaders(protected, unprotected []api.Item) bool {
	type place struct {
		isProtected bool
		value       node
	}
	where := map[api.Item]place{}
	for i, items := range [][]api.Item{protected, unprotected} {
		m, _ := treeOf(items)
		if m.item.Kind != api.Map {
			return false
		}
		for at := 0; at < len(m.in); at += 2 {
			label := m.in[at].item
			if _, isInBoth := where[label]; isInBoth || label.Kind > api.Negative && label.Kind != api.Text {
				return false
			}
			where[label] = place{i == 0, m.in[at+1]}
		}
	}
	if one := where[unsigned(1)]; !one.isProtected || one.value.item != negative(7) {
		return false
	}
	if two, isThere := where[unsigned(2)]; isThere {
		if !two.isProtected || two.value.item.Kind != api.Array || len(two.value.in) == 0 {
			return false
		}
		for _, one := range two.value.in {
			known := []api.Item{unsigned(1), unsigned(3), unsigned(4)}
			if !slices.Contains(known, one.item) || !where[one.item].isProtected {
				return false
			}
		}
	}
	if three, isThere := where[unsigned(3)]; isThere && three.value.item.Kind != api.Text && three.value.item.Kind != api.Unsigned {
		return false
	}
	four, isThere := where[unsigned(4)]
	return !isThere || four.value.item.Kind == api.Bytes
}

// judgedSeal is what P11 says.
func judgedSeal(seed string, p api.Parts, aad string) (string, api.Errno) {
	if len(seed) != 32 {
		return "", api.ErrArg
	}
	p = told(p)
	if len(p.Protected) == 0 {
		p.Protected = list(mapItem(0))
	}
	if judgedList(p.Protected) != api.OK || judgedList(p.Unprotected) != api.OK || !judgedHeaders(p.Protected, p.Unprotected) {
		return "", api.ErrHeader
	}
	protected := toldItems(p.Protected)
	if len("\x84\x6aSignature1"+toldBytes(protected)+toldBytes(aad)+toldBytes(p.Payload)) > 4096 {
		return "", api.ErrLong
	}
	payload := byteItem(p.Payload)
	if p.Detached {
		payload = simple(22)
	}
	all := slices.Concat(list(tag(18), array(4), byteItem(protected)), p.Unprotected, list(payload, byteItem(signedFor(seed, protected, aad, p.Payload))))
	if !p.Tagged {
		all = all[1:]
	}
	if e := judgedList(all); e != api.OK {
		return "", e
	}
	return toldItems(all), api.OK
}

// judgedOpen is what P12 says.
func judgedOpen(key, envelope, payload string, detached bool, aad string) (api.Parts, api.Errno) {
	if len(key) != 32 {
		return api.Parts{}, api.ErrArg
	}
	items, e := judged(envelope)
	if e != api.OK {
		return api.Parts{}, e
	}
	isTagged := items[0] == tag(18)
	if isTagged {
		items = items[1:]
	}
	v, _ := treeOf(items)
	if v.item.Kind != api.Array || len(v.in) != 4 {
		return api.Parts{}, api.ErrShape
	}
	protected, unprotected, inside, signature := v.in[0].item, v.in[1], v.in[2].item, v.in[3].item
	if protected.Kind != api.Bytes || unprotected.item.Kind != api.Map || inside.Kind != api.Bytes && inside != simple(22) || signature.Kind != api.Bytes || len(signature.S) != 64 {
		return api.Parts{}, api.ErrShape
	}
	headers, e := judged(protected.S)
	if e != api.OK || !judgedHeaders(headers, unprotected.all) {
		return api.Parts{}, api.ErrHeader
	}
	if detached != (inside.Kind == api.Simple) {
		return api.Parts{}, api.ErrPayload
	}
	if !detached {
		payload = inside.S
	}
	message := "\x84\x6aSignature1" + toldBytes(protected.S) + toldBytes(aad) + toldBytes(payload)
	switch {
	case len(message) > 4096:
		return api.Parts{}, api.ErrLong
	case !libraryTakes(key, message, signature.S):
		return api.Parts{}, api.ErrSignature
	}
	return api.Parts{Protected: headers, Unprotected: unprotected.all, Payload: payload, Detached: detached, Tagged: isTagged}, api.OK
}

// mustSealAsJudged holds Seal against the judge, and Open against what Seal gives (P11, P13).
func mustSealAsJudged(t *testing.T, seed string, p api.Parts, aad string) api.Errno {
	t.Helper()
	want, e := judgedSeal(seed, p, aad)
	s, errno := Seal(seed, p, aad)
	if s != want || errno != e {
		t.Fatalf("P11: Seal(%s) = %x, %d, want %x, %d", shownParts(p), s, errno, want, e)
	}
	if e == api.OK {
		mustOpen(t, told(p), keyOf(t, seed), s, away(p), p.Detached, aad)
	}
	return e
}

// mustOpenAsJudged holds Open against the judge, and Seal against what Open tells (P12, P13).
func mustOpenAsJudged(t *testing.T, seed, key, envelope, payload string, detached bool, aad string) api.Errno {
	t.Helper()
	want, e := judgedOpen(key, envelope, payload, detached, aad)
	p, errno := Open(key, envelope, payload, detached, aad)
	if !sameParts(p, want) || errno != e {
		t.Fatalf("P12: Open(%x, %x, %.40q, %t, %.40q) = %s, %d, want %s, %d", key, envelope, payload, detached, aad, shownParts(p), errno, shownParts(want), e)
	}
	if e == api.OK {
		if again := mustSeal(t, seed, p, aad); again != envelope {
			t.Fatalf("P13: %x and %x have the same parts and the same signature", again, envelope)
		}
	}
	return e
}

// someHeader is a label and what it stands for: most of them fit.
func someHeader(r *rand.Rand) []api.Item {
	others := [][]api.Item{list(unsigned(0)), list(unsigned(7)), list(negative(7)), list(negative(6)), list(textItem("t")), list(textItem("")), list(byteItem("k")), list(byteItem("")), list(array(0)), list(array(1), unsigned(1)), list(array(1), negative(7)), list(mapItem(1), unsigned(1), negative(7)), list(tag(5), byteItem("k")), list(simple(22)), list(float(1))}
	other := others[r.Intn(len(others))]
	isRight := r.Intn(4) > 0
	switch kind := r.Intn(10); {
	case kind == 0:
		critical := list(array(uint64(r.Intn(4))))
		for range critical[0].N {
			critical = append(critical, []api.Item{unsigned(1), unsigned(1), unsigned(3), unsigned(4), unsigned(2), unsigned(5), negative(0), array(0)}[min(r.Intn(8), r.Intn(8))])
		}
		return append(list(unsigned(2)), critical...)
	case kind < 3 && isRight:
		return list(unsigned(3), []api.Item{unsigned(0), textItem("t")}[r.Intn(2)])
	case kind < 5 && isRight:
		return list(unsigned(4), byteItem("kid"))
	case kind == 5 && r.Intn(8) == 0:
		return append([][]api.Item{list(byteItem("")), list(array(0)), list(tag(5), unsigned(1)), list(simple(20)), list(float(2))}[r.Intn(5)], other...)
	}
	label := []api.Item{unsigned(0), unsigned(5), unsigned(100), negative(0), negative(1), negative(7), textItem(""), textItem("a"), textItem("1"), unsigned(3), unsigned(4), unsigned(1)}[r.Intn(12)]
	return append(list(label), other...)
}

// someHeaders is a map of them, in the order of its labels.
func someHeaders(r *rand.Rand, pairs ...[]api.Item) []api.Item {
	for range r.Intn(5) {
		pairs = append(pairs, someHeader(r))
	}
	sort.SliceStable(pairs, func(i, j int) bool { return toldItems(pairs[i]) < toldItems(pairs[j]) })
	if r.Intn(20) > 0 {
		pairs = slices.CompactFunc(pairs, func(a, b []api.Item) bool { return a[0] == b[0] })
	}
	return labelled(pairs...)
}

func headersBoth(r *rand.Rand) (protected, unprotected []api.Item) {
	var first [][]api.Item
	if r.Intn(10) > 0 {
		first = append(first, list(unsigned(1), negative(7)))
	}
	return someHeaders(r, first...), someHeaders(r)
}

func TestHeadersAsJudged(t *testing.T) {
	r := rand.New(rand.NewSource(3))
	seed := seedOf(1)
	key := keyOf(t, seed)
	taken := 0
	for range 2500 {
		protected, unprotected := headersBoth(r)
		p := api.Parts{Protected: protected, Unprotected: unprotected, Payload: "pay", Detached: r.Intn(2) > 0, Tagged: r.Intn(2) > 0}
		if mustSealAsJudged(t, seed, p, "aad") == api.OK {
			taken++
		}
		s := laid(seed, toldItems(protected), toldItems(unprotected), "pay", "aad")
		mustOpenAsJudged(t, seed, key, s, "", false, "aad")
	}
	if taken < 250 || taken > 2250 {
		t.Errorf("of 2500 headers %d may be", taken)
	}
}

// Parts of all kinds, with lists that are no values among them.
func TestPartsAsJudged(t *testing.T) {
	r := rand.New(rand.NewSource(4))
	seen := map[api.Errno]int{}
	deep := labelled(slices.Concat(list(unsigned(9)), nested(62)))
	for range 3000 {
		var p api.Parts
		p.Protected, p.Unprotected = headersBoth(r)
		switch r.Intn(12) {
		case 0:
			p.Protected = piledList(r, 2)
		case 1:
			p.Unprotected = piledList(r, 2)
		case 2:
			p.Unprotected = nil
		case 3:
			p.Protected = slices.Delete(p.Protected, 0, 1)
		case 4:
			p.Protected, p.Unprotected = least, deep
		}
		p.Payload = sample([]int{0, 1, 30, 4000, 4010, 4020, 4060, 4075, 4080}[min(r.Intn(9), r.Intn(9))] + r.Intn(20))
		p.Detached, p.Tagged = r.Intn(2) > 0, r.Intn(2) > 0
		seed := seedOf(r.Intn(3))
		if r.Intn(30) == 0 {
			seed = sample(31 + r.Intn(3))
		}
		seen[mustSealAsJudged(t, seed, p, sample(r.Intn(40)))]++
	}
	for _, e := range []api.Errno{api.OK, api.ErrArg, api.ErrHeader, api.ErrLong, api.ErrDepth} {
		if seen[e] < 30 {
			t.Errorf("only %d parts have the error %d", seen[e], e)
		}
	}
}

// Bytes changed, taken away and put in, at every place of an envelope.
func TestChangedEnvelopes(t *testing.T) {
	seed := seedOf(1)
	key := keyOf(t, seed)
	seen := map[api.Errno]int{}
	for _, p := range []api.Parts{
		{Protected: least, Unprotected: labelled(list(unsigned(4), byteItem("k")), list(unsigned(9), mapItem(0))), Payload: "pay", Tagged: true},
		{Protected: labelled(list(unsigned(1), negative(7)), list(unsigned(2), array(1), unsigned(3)), list(unsigned(3), unsigned(1))), Payload: "pay", Detached: true},
	} {
		s := mustSeal(t, seed, p, "aad")
		for at := range s {
			isSignature := at >= len(s)-64
			for b := range 256 {
				if isSignature && b > 2 {
					continue
				}
				changed := s[:at] + string([]byte{byte(b)}) + s[at+1:]
				seen[mustOpenAsJudged(t, seed, key, changed, away(p), p.Detached, "aad")]++
				longer := s[:at] + string([]byte{byte(b)}) + s[at:]
				seen[mustOpenAsJudged(t, seed, key, longer, away(p), p.Detached, "aad")]++
			}
			seen[mustOpenAsJudged(t, seed, key, s[:at]+s[at+1:], away(p), p.Detached, "aad")]++
		}
	}
	for _, e := range []api.Errno{api.OK, api.ErrShape, api.ErrHeader, api.ErrPayload, api.ErrSignature, api.ErrTag, api.ErrTruncated, api.ErrTrailing} {
		if seen[e] == 0 {
			t.Errorf("no envelope has the error %d", e)
		}
	}
}

// Envelopes of pieces that are each changed or not, so that errors come together.
func TestEnvelopesOfPieces(t *testing.T) {
	r := rand.New(rand.NewSource(5))
	seed := seedOf(1)
	key, otherKey := keyOf(t, seed), keyOf(t, seedOf(2))
	seen := map[api.Errno]int{}
	pick := func(good string, others ...string) string {
		if r.Intn(5) > 0 {
			return good
		}
		return others[r.Intn(len(others))]
	}
	for range 3000 {
		protected := pick(leastTold, "", "\xa0", "\xa1\x01\x26", "\xa2\x01\x27\x04\x41k", "\xa2\x01\x27\x04\x61k", "\xa1\x18\x01\x27", "\x81\x01", "\xa2\x01\x27\x02\x81\x03")
		payload := pick("pay", "", sample(3000), sample(4000))
		aad := pick("aad", "", sample(1000), sample(1100), sample(4096))
		signature := pick(signedFor(seed, protected, aad, payload), strings.Repeat("s", 64), strings.Repeat("s", 63), signedFor(seedOf(3), protected, aad, payload))
		isDetached := r.Intn(2) > 0
		inside := pick(map[bool]string{true: "\xf6", false: toldBytes(payload)}[isDetached], "\xf6", toldBytes(payload), "\xf7", "\x60")
		unprotected := pick("\xa0", "\xa1\x04\x41k", "\xa1\x04\x01", "\xa1\x01\x27", "\x80", "\xa1\x40\x00", "\xa2\x09\x01\x09\x01", "\xa1\x09\xc0\x01")
		s := pick("", "\xd2", "\xd2", "\xd2", "\xd1", "\xd2\xd2") + pick("\x84", "\x84", "\x85", "\x83") + pick(toldBytes(protected), toldBytes(protected), "\x60") + unprotected + inside + toldBytes(signature) + pick("", "", "", "\x00")
		seen[mustOpenAsJudged(t, seed, pick(key, otherKey, key[1:]), s, payload, isDetached, aad)]++
	}
	for _, e := range []api.Errno{api.OK, api.ErrArg, api.ErrLong, api.ErrTruncated, api.ErrTrailing, api.ErrOrder, api.ErrTag, api.ErrShape, api.ErrHeader, api.ErrPayload, api.ErrSignature} {
		if seen[e] < 10 {
			t.Errorf("only %d envelopes have the error %d", seen[e], e)
		}
	}
}
