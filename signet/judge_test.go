package signet

import (
	"math"
	"math/rand"
	"regexp"
	"slices"
	"strings"
	"sync"
	"testing"
	"unicode/utf8"

	"signet/api"
)

// judge reads a value by the document's words alone, one condition after the other, over the bytes themselves: keys are held against each other as they stand there.
type judge struct {
	s                  string
	at                 int
	items              []api.Item
	unordered, untaken bool
}

func judged(s string) ([]api.Item, api.Errno) {
	if len(s) > 4096 {
		return nil, api.ErrLong
	}
	j := judge{s: s}
	e := j.value(1)
	switch {
	case e != api.OK:
		return nil, e
	case j.at < len(s):
		return nil, api.ErrTrailing
	case j.unordered:
		return nil, api.ErrOrder
	case j.untaken:
		return nil, api.ErrTag
	}
	return j.items, api.OK
}

func (j *judge) value(depth int) api.Errno {
	switch {
	case j.at == len(j.s):
		return api.ErrTruncated
	case len(j.items) == 600:
		return api.ErrLong
	case depth > 64:
		return api.ErrDepth
	}
	kind, told := int(j.s[j.at]/32), int(j.s[j.at]%32)
	j.at++
	if told == 31 {
		return api.ErrIndefinite
	} else if told > 27 {
		return api.ErrReserved
	}
	n, size := uint64(told), 0
	if told >= 24 {
		size = 1 << (told - 24)
		if j.at+size > len(j.s) {
			return api.ErrTruncated
		}
		n = 0
		for i := range size {
			n = n*256 + uint64(j.s[j.at+i])
		}
		j.at += size
	}
	if kind == 7 {
		return j.other(size, n)
	}
	if size > 0 && (n < 24 || size > 1 && n < 1<<(4*size)) {
		return api.ErrShortest
	}
	return j.inside(kind, n, depth)
}

func (j *judge) other(size int, n uint64) api.Errno {
	item := simple(n)
	switch size {
	case 1:
		if n < 32 {
			return api.ErrReserved
		}
	case 2:
		item = float(ofHalf(n))
		if n&0x7fff > 0x7c00 {
			item = floatBits(noNumber)
			if n != 0x7e00 {
				return api.ErrFloat
			}
		}
	case 4:
		x := float64(math.Float32frombits(uint32(n)))
		item = float(x)
		if math.IsNaN(x) || isHalf(x) {
			return api.ErrFloat
		}
	case 8:
		x := math.Float64frombits(n)
		item = floatBits(n)
		if math.IsNaN(x) || float64(float32(x)) == x {
			return api.ErrFloat
		}
	}
	j.items = append(j.items, item)
	return api.OK
}

func (j *judge) inside(kind int, n uint64, depth int) api.Errno {
	switch kind {
	case api.Bytes, api.Text:
		if n > uint64(len(j.s)-j.at) {
			return api.ErrTruncated
		}
		item := api.Item{Kind: kind, S: j.s[j.at : j.at+int(n)]}
		j.at += int(n)
		if kind == api.Text && !utf8.ValidString(item.S) {
			return api.ErrText
		}
		j.items = append(j.items, item)
		return api.OK
	}
	own := len(j.items)
	j.items = append(j.items, api.Item{Kind: kind, N: n})
	ahead := ""
	for i := uint64(0); kind == api.Array && i < n || kind == api.Map && i/2 < n || kind == api.Tag && i == 0; i++ {
		from := j.at
		if e := j.value(depth + 1); e != api.OK {
			return e
		}
		if kind == api.Map && i%2 == 0 {
			j.unordered = j.unordered || j.s[from:j.at] <= ahead
			ahead = j.s[from:j.at]
		}
	}
	j.untaken = j.untaken || kind == api.Tag && !judgedTag(n, own, j.items[own+1])
	return api.OK
}

var judgedDate = regexp.MustCompile(`^[0-9]{4}-(0[1-9]|1[0-2])-(0[1-9]|[12][0-9]|3[01])T([01][0-9]|2[0-3]):[0-5][0-9]:[0-5][0-9]Z$`)

func judgedTag(n uint64, at int, in api.Item) bool {
	switch n {
	case 0:
		return in.Kind == api.Text && judgedDate.MatchString(in.S)
	case 1:
		x := math.Float64frombits(in.N)
		return in.Kind < api.Bytes || in.Kind == api.Float && x-x == 0
	case 2, 3:
		return in.Kind == api.Bytes && len(strings.TrimLeft(in.S, "\x00")) == len(in.S) && len(in.S) >= 9
	case 18:
		return in == array(4)
	case 24:
		_, e := judged(in.S)
		return in.Kind == api.Bytes && e == api.OK
	case 32:
		return in.Kind == api.Text && len(in.S) > 0 && strings.IndexFunc(in.S, func(r rune) bool { return r <= 32 }) < 0
	case 55799:
		return at == 0
	}
	return true
}

// mustBeAsJudged holds Decode against the judge, and what it takes against Encode (P9, P10).
func mustBeAsJudged(t *testing.T, s string) {
	t.Helper()
	want, e := judged(s)
	got, errno := Decode(s)
	if errno != e || !slices.Equal(got, want) {
		t.Fatalf("P9: Decode(%x) = %s, %d, want %s, %d", s, shown(got), errno, shown(want), e)
	}
	if e != api.OK {
		return
	}
	if back, errno := Encode(got); back != s || errno != api.OK {
		t.Fatalf("P10: Encode of what Decode(%x) gives is %x, %d", s, back, errno)
	}
}

func TestAllShortTexts(t *testing.T) {
	mustBeAsJudged(t, "")
	for a := range 256 {
		mustBeAsJudged(t, string([]byte{byte(a)}))
		for b := range 256 {
			mustBeAsJudged(t, string([]byte{byte(a), byte(b)}))
			for _, c := range []byte{0, 1, 0x17, 0x18, 0x20, 0x40, 0x41, 0x61, 0x7e, 0x80, 0x81, 0xa0, 0xa1, 0xc0, 0xe0, 0xf8, 0xff} {
				mustBeAsJudged(t, string([]byte{byte(a), byte(b), c}))
			}
		}
	}
}

func TestChangedTexts(t *testing.T) {
	for _, value := range someValues() {
		s := mustEncode(t, value...)
		for i := range s {
			for b := range 256 {
				mustBeAsJudged(t, s[:i]+string([]byte{byte(b)})+s[i+1:])
			}
			mustBeAsJudged(t, s[:i]+s[i+1:])
			for _, b := range []byte("\x00\x01\x18\x41\x61\x81\xa1\xc5\xd8\xf9\xff") {
				mustBeAsJudged(t, s[:i]+string([]byte{b})+s[i:])
			}
		}
	}
}

// piled is a text of heads and bytes, most of which fit together.
func piled(r *rand.Rand, left int) string {
	pieces := []string{"\x00", "\x01", "\x17", "\x18\x18", "\x18\x17", "\x19\x01\x00", "\x20", "\x40", "\x41a", "\x60", "\x61b", "\x61\xff", "\xf4", "\xf6", "\xf8\x20", "\xf8\x1f", "\xf9\x3e\x00", "\xf9\x7e\x00", "\xfa\x47\xc3\x50\x00", "\xfa\x3f\xc0\x00\x00", "\xc5\x01", "\xc1\x01", "\xc0\x01", "\xd8\x18\x41\x01", "\xd8\x18\x41\xff", "\x1c", "\x9f"}
	if left == 0 || r.Intn(3) == 0 {
		return pieces[min(r.Intn(len(pieces)), r.Intn(len(pieces)))]
	}
	count := r.Intn(4)
	out := string([]byte{byte(0x80 + count)})
	if r.Intn(2) == 0 {
		out = string([]byte{byte(0xa0 + count)})
		count *= 2
	}
	for range count {
		out += piled(r, left-1)
	}
	return []string{"", "", "", "\xc5", "\xd9\xd9\xf7"}[r.Intn(5)] + out
}

func TestPiledTexts(t *testing.T) {
	r := rand.New(rand.NewSource(1))
	seen := map[api.Errno]int{}
	for range 100000 {
		s := piled(r, 4)
		_, e := judged(s)
		seen[e]++
		mustBeAsJudged(t, s)
	}
	for _, e := range []api.Errno{api.OK, api.ErrReserved, api.ErrIndefinite, api.ErrShortest, api.ErrFloat, api.ErrText, api.ErrOrder, api.ErrTag} {
		if seen[e] < 100 {
			t.Errorf("only %d texts have the error %d", seen[e], e)
		}
	}
}

// judgedList is what P8 says of a list of items: those by themselves one after the other, then all else of what they are written as.
func judgedList(l []api.Item) api.Errno {
	if len(l) > 600 {
		return api.ErrLong
	}
	left, told := []uint64{1}, ""
	at := 0
	for len(left) > 0 {
		if left[len(left)-1] == 0 {
			left = left[:len(left)-1]
			continue
		}
		left[len(left)-1]--
		if at == len(l) {
			return api.ErrTruncated
		}
		item := l[at]
		switch isText := item.Kind == api.Bytes || item.Kind == api.Text; {
		case item.Kind < 0 || item.Kind > 8 || isText && item.N > 0 || !isText && item.S != "":
			return api.ErrArg
		case item.Kind == api.Simple && (item.N > 255 || item.N/8 == 3):
			return api.ErrReserved
		case item.Kind == api.Float && math.IsNaN(math.Float64frombits(item.N)) && item.N != noNumber:
			return api.ErrFloat
		case item.Kind == api.Text && !utf8.ValidString(item.S):
			return api.ErrText
		case len(left) > 64:
			return api.ErrDepth
		}
		at++
		told += judgedItem(item)
		left = append(left, map[int]uint64{api.Array: item.N, api.Map: 2 * item.N, api.Tag: 1}[item.Kind])
	}
	if at < len(l) {
		return api.ErrTrailing
	}
	_, e := judged(told)
	return e
}

// halves has the 16 bits of each number that has them, by its 64 bits.
var halves = sync.OnceValue(func() map[uint64]uint64 {
	all := map[uint64]uint64{noNumber: 0x7e00}
	for n := range uint64(0x7c01) {
		all[math.Float64bits(ofHalf(n))] = n
		all[math.Float64bits(ofHalf(n|0x8000))] = n | 0x8000
	}
	return all
})

// judgedItem is what an item is written as.
func judgedItem(item api.Item) string {
	switch item.Kind {
	case api.Bytes, api.Text:
		n := uint64(len(item.S))
		return headBytes(item.Kind, sizeFor(n), n) + item.S
	case api.Float:
		if n, ok := halves()[item.N]; ok {
			return headBytes(7, 2, n)
		}
		if x := math.Float64frombits(item.N); float64(float32(x)) == x {
			return headBytes(7, 4, uint64(math.Float32bits(float32(x))))
		}
		return headBytes(7, 8, item.N)
	}
	return headBytes(min(item.Kind, 7), sizeFor(item.N), item.N)
}

// piledList is a list of items, most of which fit together.
func piledList(r *rand.Rand, left int) []api.Item {
	pieces := []api.Item{unsigned(0), unsigned(1), unsigned(24), unsigned(256), negative(0), negative(1 << 40), byteItem(""), byteItem("a"), textItem(""), textItem("b"), simple(20), simple(32), float(1.5), floatBits(noNumber), tag(5), array(0), mapItem(0), textItem("\xff"), simple(24), simple(256), floatBits(noNumber + 1), {Kind: 9}, {Kind: api.Bytes, N: 1}, {Kind: api.Tag, S: "x"}, array(1), array(1 << 62)}
	if left == 0 || r.Intn(3) == 0 {
		return list(pieces[min(r.Intn(len(pieces)), r.Intn(len(pieces)), r.Intn(len(pieces)))])
	}
	count := uint64(r.Intn(4))
	out := list(array(count))
	switch r.Intn(3) {
	case 0:
		out = list(mapItem(count))
		count *= 2
	case 1:
		out = list(tag([]uint64{0, 1, 5, 18, 24, 55799}[r.Intn(6)]))
		count = 1
	}
	for range count {
		out = append(out, piledList(r, left-1)...)
	}
	return out
}

func TestPiledLists(t *testing.T) {
	r := rand.New(rand.NewSource(2))
	seen := map[api.Errno]int{}
	for range 50000 {
		l := piledList(r, 5)
		if r.Intn(8) == 0 {
			l = append(l, piledList(r, 0)...)
		}
		want := judgedList(l)
		seen[want]++
		s, e := Encode(l)
		if e != want {
			t.Fatalf("P8: Encode(%s) = %x, %d, want %d", shown(l), s, e, want)
		}
		if e != api.OK {
			continue
		}
		if back, e := Decode(s); !slices.Equal(back, l) || e != api.OK {
			t.Fatalf("P10: Decode of what Encode(%s) gives is %s, %d", shown(l), shown(back), e)
		}
	}
	for _, e := range []api.Errno{api.OK, api.ErrArg, api.ErrTruncated, api.ErrTrailing, api.ErrReserved, api.ErrFloat, api.ErrText, api.ErrOrder, api.ErrTag} {
		if seen[e] < 100 {
			t.Errorf("only %d lists have the error %d", seen[e], e)
		}
	}
}
