package signet

import (
	"encoding/binary"
	"fmt"
	"math"
	"slices"
	"sort"
	"strings"
	"testing"
	"unsafe"

	"signet/api"
)

const noNumber = 0x7ff8000000000000

func unsigned(n uint64) api.Item    { return api.Item{Kind: api.Unsigned, N: n} }
func negative(n uint64) api.Item    { return api.Item{Kind: api.Negative, N: n} }
func byteItem(s string) api.Item    { return api.Item{Kind: api.Bytes, S: s} }
func textItem(s string) api.Item    { return api.Item{Kind: api.Text, S: s} }
func array(n uint64) api.Item       { return api.Item{Kind: api.Array, N: n} }
func mapItem(n uint64) api.Item     { return api.Item{Kind: api.Map, N: n} }
func tag(n uint64) api.Item         { return api.Item{Kind: api.Tag, N: n} }
func simple(n uint64) api.Item      { return api.Item{Kind: api.Simple, N: n} }
func float(x float64) api.Item      { return floatBits(math.Float64bits(x)) }
func floatBits(n uint64) api.Item   { return api.Item{Kind: api.Float, N: n} }
func list(l ...api.Item) []api.Item { return l }

// nested is a list of n items, each one in the one ahead.
func nested(n int) []api.Item {
	return append(slices.Repeat(list(array(1)), n-1), unsigned(1))
}

// flat is an Array, n items in all.
func flat(n int) []api.Item {
	return append(list(array(uint64(n-1))), slices.Repeat(list(unsigned(1)), n-1)...)
}

// headBytes is a head of the kind whose number stands in size bytes behind; with size 0 in the head itself.
func headBytes(kind int, size int, n uint64) string {
	behind := binary.BigEndian.AppendUint64(nil, n)[8-size:]
	told := map[int]int{0: int(n), 1: 24, 2: 25, 4: 26, 8: 27}[size]
	return string(append([]byte{byte(kind*32 + told)}, behind...))
}

// sizeFor is in how many bytes behind the head a number is told.
func sizeFor(n uint64) int {
	switch {
	case n < 24:
		return 0
	case n < 1<<8:
		return 1
	case n < 1<<16:
		return 2
	case n < 1<<32:
		return 4
	}
	return 8
}

// shown is a value as a failing test tells it.
func shown(value []api.Item) string {
	out := fmt.Sprintf("%d items:", len(value))
	for _, item := range value[:min(len(value), 12)] {
		out += fmt.Sprintf(" %d:%d:%.40q", item.Kind, item.N, item.S)
	}
	return out
}

// mustStand holds a value and its bytes against each other (P8, P9, P10), and looks that both calls leave alone what they are given (P2).
func mustStand(t *testing.T, want string, value ...api.Item) {
	t.Helper()
	was := slices.Clone(value)
	got, e := Encode(value)
	if got != want || e != api.OK {
		t.Errorf("P8: Encode(%s) = %.100x, %d, want %.100x", shown(value), got, e, want)
	}
	if !slices.Equal(value, was) {
		t.Errorf("P2: Encode made %s of %s", shown(value), shown(was))
	}
	back, e := Decode(want)
	if !slices.Equal(back, value) || e != api.OK {
		t.Errorf("P9: Decode(%.100x) = %s, %d, want %s", want, shown(back), e, shown(value))
	}
}

func mustNotEncode(t *testing.T, want api.Errno, value ...api.Item) {
	t.Helper()
	if got, e := Encode(value); got != "" || e != want {
		t.Errorf("P8: Encode(%s) = %.100x, %d, want nothing and %d", shown(value), got, e, want)
	}
}

func mustNotDecode(t *testing.T, want api.Errno, s string) {
	t.Helper()
	if got, e := Decode(s); len(got) > 0 || e != want {
		t.Errorf("P9: Decode(%.100x) = %s, %d, want nothing and %d", s, shown(got), e, want)
	}
}

func mustEncode(t *testing.T, value ...api.Item) string {
	t.Helper()
	s, e := Encode(value)
	if s == "" || e != api.OK {
		t.Fatalf("P8: Encode(%s) = %.100x, %d", shown(value), s, e)
	}
	return s
}

func TestKnownValues(t *testing.T) {
	for told, value := range map[string][]api.Item{
		"17":                 list(unsigned(23)),
		"1818":               list(unsigned(24)),
		"190100":             list(unsigned(256)),
		"29":                 list(negative(9)),
		"f93e00":             list(float(1.5)),
		"fa47c35000":         list(float(100000)),
		"fb3ff199999999999a": list(float(1.1)),
		"82f46161":           list(array(2), simple(20), textItem("a")),
		"a20af620f6":         list(mapItem(2), unsigned(10), simple(22), negative(0), simple(22)),
	} {
		mustStand(t, unhex(t, told), value...)
	}
	for told, want := range map[string]api.Errno{
		"1817":       api.ErrShortest,
		"9fff":       api.ErrIndefinite,
		"1c":         api.ErrReserved,
		"f818":       api.ErrReserved,
		"8201":       api.ErrTruncated,
		"0101":       api.ErrTrailing,
		"a201010101": api.ErrOrder,
		"fa3fc00000": api.ErrFloat,
		"61ff":       api.ErrText,
		"c001":       api.ErrTag,
	} {
		mustNotDecode(t, want, unhex(t, told))
	}
}

var edgesOfNumbers = []uint64{0, 1, 22, 23, 24, 25, 31, 32, 254, 255, 256, 257, 65534, 65535, 65536, 65537, 1<<32 - 2, 1<<32 - 1, 1 << 32, 1<<32 + 1, 1<<63 - 1, 1 << 63, 1<<64 - 2, 1<<64 - 1}

func TestNumbersAreShort(t *testing.T) {
	for _, n := range edgesOfNumbers {
		mustStand(t, headBytes(0, sizeFor(n), n), unsigned(n))
		mustStand(t, headBytes(1, sizeFor(n), n), negative(n))
		if n > 32 {
			mustStand(t, headBytes(6, sizeFor(n), n)+"\x01", tag(n), unsigned(1))
		}
	}
}

func TestLengthsAreShort(t *testing.T) {
	for _, n := range []int{0, 1, 22, 23, 24, 25, 254, 255, 256, 257, 4092, 4093} {
		s := strings.Repeat("y", n)
		mustStand(t, headBytes(2, sizeFor(uint64(n)), uint64(n))+s, byteItem(s))
		mustStand(t, headBytes(3, sizeFor(uint64(n)), uint64(n))+s, textItem(s))
	}
	for _, n := range []int{0, 1, 23, 24, 255, 256, 598, 599} {
		want := headBytes(4, sizeFor(uint64(n)), uint64(n)) + strings.Repeat("\x01", n)
		mustStand(t, want, flat(n+1)...)
	}
	for _, n := range []uint64{0, 1, 23, 24, 255, 256, 299} {
		want, value := headBytes(5, sizeFor(n), n), list(mapItem(n))
		for i := range n {
			want += headBytes(0, sizeFor(i), i) + "\x20"
			value = append(value, unsigned(i), negative(0))
		}
		mustStand(t, want, value...)
	}
}

func TestNumbersToldTooLong(t *testing.T) {
	for kind := range 7 {
		for _, n := range edgesOfNumbers {
			for _, size := range []int{1, 2, 4, 8} {
				if size <= sizeFor(n) {
					continue
				}
				head := headBytes(kind, size, n)
				mustNotDecode(t, api.ErrShortest, head)
				mustNotDecode(t, api.ErrShortest, head+"\xff\xff")
				mustNotDecode(t, api.ErrShortest, "\x82\x01"+head)
				for cut := 1; cut < len(head); cut++ {
					mustNotDecode(t, api.ErrTruncated, head[:cut])
				}
			}
		}
	}
}

func TestReservedHeads(t *testing.T) {
	for kind := range 8 {
		for told, want := range map[int]api.Errno{28: api.ErrReserved, 29: api.ErrReserved, 30: api.ErrReserved, 31: api.ErrIndefinite} {
			head := string([]byte{byte(kind*32 + told)})
			mustNotDecode(t, want, head)
			mustNotDecode(t, want, head+"\x01\xff")
			mustNotDecode(t, want, "\xa1\x01"+head)
			mustNotDecode(t, want, head+strings.Repeat("\x00", 16))
		}
	}
}

func TestSimples(t *testing.T) {
	for n := range uint64(256) {
		switch told := string([]byte{0xf8, byte(n)}); {
		case n < 24:
			mustStand(t, string([]byte{byte(0xe0 + n)}), simple(n))
			mustNotDecode(t, api.ErrReserved, told)
		case n < 32:
			mustNotEncode(t, api.ErrReserved, simple(n))
			mustNotDecode(t, api.ErrReserved, told)
		default:
			mustStand(t, told, simple(n))
		}
	}
	for _, n := range []uint64{256, 256 + 20, 1 << 32, 1<<32 + 20, 1<<64 - 1} {
		mustNotEncode(t, api.ErrReserved, simple(n))
	}
}

// ofHalf is the number that 16 bits are.
func ofHalf(n uint64) float64 {
	sign := 1 - 2*float64(n>>15)
	exponent, part := int(n>>10&31), float64(n&1023)
	switch exponent {
	case 0:
		return math.Copysign(math.Ldexp(part, -24), sign)
	case 31:
		return math.Inf(int(sign))
	}
	return sign * math.Ldexp(1024+part, exponent-25)
}

func TestFloatsOf16Bits(t *testing.T) {
	for n := range uint64(1 << 16) {
		told := headBytes(7, 2, n)
		if n&0x7fff <= 0x7c00 {
			mustStand(t, told, float(ofHalf(n)))
			mustNotDecode(t, api.ErrFloat, headBytes(7, 4, uint64(math.Float32bits(float32(ofHalf(n))))))
			mustNotDecode(t, api.ErrFloat, headBytes(7, 8, math.Float64bits(ofHalf(n))))
		} else if n == 0x7e00 {
			mustStand(t, told, floatBits(noNumber))
		} else {
			mustNotDecode(t, api.ErrFloat, told)
		}
	}
}

// isHalf says whether 16 bits have the number.
func isHalf(x float64) bool {
	x = math.Abs(x)
	whole := x * (1 << 24)
	_, exponent := math.Frexp(whole)
	return math.IsInf(x, 0) || whole == math.Trunc(whole) && x <= 65504 && math.Mod(whole, math.Ldexp(1, max(exponent-11, 0))) == 0
}

// mustBeShortest holds a number against its shortest form, as Go's conversions tell it, and looks that its longer ones are refused.
func mustBeShortest(t *testing.T, x float64) {
	t.Helper()
	double := headBytes(7, 8, math.Float64bits(x))
	single := headBytes(7, 4, uint64(math.Float32bits(float32(x))))
	if float64(float32(x)) != x {
		mustStand(t, double, float(x))
		return
	}
	mustNotDecode(t, api.ErrFloat, double)
	if !isHalf(x) {
		mustStand(t, single, float(x))
		return
	}
	mustNotDecode(t, api.ErrFloat, single)
	if s := mustEncode(t, float(x)); len(s) != 3 {
		t.Errorf("P8: Encode of the Float %v is %x, want 16 bits", x, s)
	}
}

func TestFloatsOfMoreBits(t *testing.T) {
	edges := []float64{0, 0x1p-24, 0x1p-25, 0x3p-24, 0x3p-25, 0x1p-14, 0x1.ff8p-15, 0x1.ffcp-15, 0x1.ffcp-14, 1, 1.5, 1 + 0x1p-10, 1 + 0x1p-11, 2047, 2048, 2049, 65472, 65488, 65503, 65504, 65505, 65519, 65520, 65535, 65536, 131008, 0x1.ffcp16, 100000, 1.1,
		0x1p-126, 0x1.fffffcp-127, 0x1.fffffep-127, 0x1p-149, 0x1p-150, 0x3p-149, 0x3p-150, 1 + 0x1p-23, 1 + 0x1p-24, 1<<24 - 1, 1<<24 + 1, 1<<25 + 2, math.MaxFloat32, 0x1.ffffffp127, 0x1p128, 0x1.fffffep128,
		0x1p-1022, 0x1p-1074, 0x1.8p-1073, 0x0.fffffffffffffp-1022, math.MaxFloat64, 0x1p1023, math.Pi, 1 + 0x1p-52}
	for _, edge := range edges {
		for _, x := range []float64{edge, math.Nextafter(edge, 0), math.Nextafter(edge, math.Inf(1)), float64(math.Nextafter32(float32(edge), 0)), float64(math.Nextafter32(float32(edge), math.MaxFloat32))} {
			mustBeShortest(t, x)
			mustBeShortest(t, -x)
			mustBeShortest(t, math.Copysign(x, -1))
		}
	}
	for exponent := -1080; exponent <= 1030; exponent++ {
		for _, part := range []float64{1, 1.5, 1 + 0x1p-10, 1 + 0x1p-11, 1 + 0x1p-23, 1 + 0x1p-24, 1 + 0x1p-52, 2 - 0x1p-10, 2 - 0x1p-23, 2 - 0x1p-52} {
			mustBeShortest(t, math.Ldexp(part, exponent))
			mustBeShortest(t, -math.Ldexp(part, exponent))
		}
	}
}

func TestWhatIsNoNumber(t *testing.T) {
	mustStand(t, "\xf9\x7e\x00", floatBits(noNumber))
	for _, n := range []uint64{0x7ff0000000000001, 0x7ff8000000000001, 0x7ff4000000000000, 0x7ffc000000000000, 0x7fffffffffffffff, 0xfff8000000000000, 0xfff0000000000001, 0xffffffffffffffff} {
		mustNotEncode(t, api.ErrFloat, floatBits(n))
		mustNotDecode(t, api.ErrFloat, headBytes(7, 8, n))
	}
	for _, n := range []uint64{0x7f800001, 0x7fc00000, 0x7fc00001, 0x7fffffff, 0xffc00000, 0xff800001, 0xffffffff} {
		mustNotDecode(t, api.ErrFloat, headBytes(7, 4, n))
	}
	mustNotDecode(t, api.ErrFloat, headBytes(7, 8, noNumber))
}

func TestTextsAreUTF8(t *testing.T) {
	for _, s := range []string{"", "a", "\x00", "\x7f", "é", "\u0080", "\u07ff", "\u0800", "\ud7ff", "\ue000", "\ufffd", "\uffff", "\U00010000", "\U0010ffff", "水"} {
		mustStand(t, headBytes(3, 0, uint64(len(s)))+s, textItem(s))
	}
	for _, s := range []string{"\x80", "\xbf", "\xff", "\xfe", "\xc3", "\xc3(", "\xc0\x80", "\xc1\xbf", "\xe0\x80\x80", "\xe0\x9f\xbf", "\xed\xa0\x80", "\xed\xbf\xbf", "\xe6\xb0", "\xf0\x80\x80\x80", "\xf0\x8f\xbf\xbf", "\xf4\x90\x80\x80", "\xf5\x80\x80\x80", "\xf8\x88\x80\x80\x80", "ab\xff", "é\x80"} {
		mustNotEncode(t, api.ErrText, textItem(s))
		mustNotDecode(t, api.ErrText, headBytes(3, 0, uint64(len(s)))+s)
		mustStand(t, headBytes(2, 0, uint64(len(s)))+s, byteItem(s))
	}
	mustNotDecode(t, api.ErrText, "\x82\x61\xc3\x61\xa9")
}

func TestKindsThatMayNotBe(t *testing.T) {
	for _, kind := range []int{-1, 9, 10, 32, 255, 256, 1 << 32, math.MaxInt, math.MinInt} {
		mustNotEncode(t, api.ErrArg, api.Item{Kind: kind})
		mustNotEncode(t, api.ErrArg, array(1), api.Item{Kind: kind})
	}
	for kind := api.Unsigned; kind <= api.Float; kind++ {
		wrong := api.Item{Kind: kind, S: "x"}
		if kind == api.Bytes || kind == api.Text {
			wrong.N = 1
		}
		mustNotEncode(t, api.ErrArg, wrong)
		mustNotEncode(t, api.ErrArg, array(2), unsigned(1), wrong)
	}
}

func TestBoundsOfValues(t *testing.T) {
	mustStand(t, "\x99\x02\x57"+strings.Repeat("\x01", 599), flat(600)...)
	mustNotEncode(t, api.ErrLong, flat(601)...)
	mustNotDecode(t, api.ErrLong, "\x99\x02\x58"+strings.Repeat("\x01", 600))
	mustNotDecode(t, api.ErrTruncated, "\x99\x02\x58"+strings.Repeat("\x01", 599))
	mustNotDecode(t, api.ErrTrailing, "\x99\x02\x57"+strings.Repeat("\x01", 600))

	for _, around := range []struct {
		item api.Item
		told string
	}{{array(1), "\x81"}, {tag(5), "\xc5"}} {
		mustStand(t, strings.Repeat(around.told, 63)+"\x80", append(slices.Repeat(list(around.item), 63), array(0))...)
		mustNotEncode(t, api.ErrDepth, append(slices.Repeat(list(around.item), 64), array(0))...)
		mustNotEncode(t, api.ErrTruncated, slices.Repeat(list(around.item), 64)...)
		mustNotDecode(t, api.ErrDepth, strings.Repeat(around.told, 64)+"\x80")
		mustNotDecode(t, api.ErrTruncated, strings.Repeat(around.told, 64))
		mustNotDecode(t, api.ErrDepth, strings.Repeat(around.told, 4096))
	}
	mustNotEncode(t, api.ErrDepth, slices.Repeat(list(mapItem(1)), 600)...)
	mustNotDecode(t, api.ErrDepth, strings.Repeat("\xa1", 4096))
	mustStand(t, "\xa1\x01"+strings.Repeat("\x81", 62)+"\x01", append(list(mapItem(1), unsigned(1)), nested(63)...)...)
	mustNotEncode(t, api.ErrDepth, append(list(mapItem(1), unsigned(1)), nested(64)...)...)
	mustNotEncode(t, api.ErrDepth, append(append(list(mapItem(1)), nested(64)...), unsigned(1))...)

	mustStand(t, "\x59\x0f\xfd"+strings.Repeat("x", 4093), byteItem(strings.Repeat("x", 4093)))
	mustNotEncode(t, api.ErrLong, byteItem(strings.Repeat("x", 4094)))
	mustNotEncode(t, api.ErrLong, array(2), byteItem(strings.Repeat("x", 4090)), byteItem("aa"))
	mustStand(t, "\x82\x59\x0f\xfa"+strings.Repeat("x", 4090)+"\x41a", array(2), byteItem(strings.Repeat("x", 4090)), byteItem("a"))
	mustNotDecode(t, api.ErrLong, "\x59\x0f\xfe"+strings.Repeat("x", 4094))
	mustNotDecode(t, api.ErrLong, strings.Repeat("\xff", 4097))
	mustNotDecode(t, api.ErrTrailing, "\x00"+strings.Repeat("\xff", 4095))
}

func TestCountsThatAreTooGreat(t *testing.T) {
	for _, n := range []uint64{600, 601, 1 << 31, 1 << 32, 1<<63 - 1, 1 << 63, 1<<63 + 1, 1<<64 - 1} {
		for _, item := range list(array(n), mapItem(n)) {
			head := headBytes(item.Kind, sizeFor(n), n)
			for _, behind := range []int{0, 1, 2, 598, 599} {
				mustNotEncode(t, api.ErrTruncated, append(list(item), flat(600)[1:1+behind]...)...)
				mustNotDecode(t, api.ErrTruncated, head+strings.Repeat("\x01", behind))
			}
			mustNotDecode(t, api.ErrLong, head+strings.Repeat("\x01", 600))
		}
		mustNotDecode(t, api.ErrTruncated, headBytes(2, sizeFor(n), n)+strings.Repeat("x", 599))
		mustNotDecode(t, api.ErrTruncated, headBytes(3, sizeFor(n), n)+strings.Repeat("\xff", 599))
	}
}

// someValues are values of all kinds, no two the same.
func someValues() [][]api.Item {
	return [][]api.Item{
		list(unsigned(0)), list(unsigned(10)), list(unsigned(23)), list(unsigned(24)), list(unsigned(100)), list(unsigned(256)), list(unsigned(65536)), list(unsigned(1 << 40)),
		list(negative(0)), list(negative(23)), list(negative(24)), list(negative(255)), list(negative(256)), list(negative(1<<64 - 1)),
		list(byteItem("")), list(byteItem("\x00")), list(byteItem("a")), list(byteItem("B")), list(byteItem("\x7f")), list(byteItem("\x80")), list(byteItem("\xff\x80")), list(byteItem(strings.Repeat("z", 30))),
		list(textItem("")), list(textItem("b")), list(textItem("A")), list(textItem("aa")), list(textItem("é")), list(textItem(strings.Repeat("水", 20))),
		list(array(0)), list(array(1), array(0)), list(array(1), unsigned(100)), list(array(2), unsigned(1), byteItem("B")), list(array(2), unsigned(1), byteItem("a")), list(array(2), simple(20), textItem("a")), list(array(3), unsigned(1), array(2), unsigned(2), unsigned(3), array(0)),
		list(mapItem(0)), list(mapItem(1), unsigned(1), mapItem(0)), list(mapItem(2), unsigned(10), simple(22), negative(0), simple(22)), list(mapItem(2), unsigned(1), mapItem(1), textItem("k"), array(1), float(1.1), array(1), unsigned(2), byteItem("v")),
		list(mapItem(2), mapItem(1), unsigned(1), unsigned(1), unsigned(1), mapItem(1), unsigned(1), unsigned(2), unsigned(1)),
		list(tag(5), unsigned(1)), list(tag(0), textItem("2013-03-21T20:04:00Z")), list(tag(1), float(1363896240.5)), list(tag(2), byteItem("\x01\x00\x00\x00\x00\x00\x00\x00\x00")), list(tag(18), array(4), unsigned(1), unsigned(2), unsigned(3), unsigned(4)), list(tag(24), byteItem("\xd8\x18\x42\x81\x01")), list(tag(32), textItem("http://a")), list(tag(1000), tag(5), simple(0)),
		list(simple(0)), list(simple(23)), list(simple(32)), list(simple(255)),
		list(float(0)), list(float(math.Copysign(0, -1))), list(float(1.5)), list(float(100000)), list(float(1.1)), list(float(math.Inf(-1))), list(floatBits(noNumber)),
	}
}

// sortedKeys are someValues in the order of their bytes.
func sortedKeys(t *testing.T) [][]api.Item {
	t.Helper()
	keys := someValues()
	sort.Slice(keys, func(i, j int) bool { return mustEncode(t, keys[i]...) < mustEncode(t, keys[j]...) })
	return keys
}

func TestKeysRise(t *testing.T) {
	keys := sortedKeys(t)
	all, told := list(mapItem(uint64(len(keys)))), headBytes(5, 1, uint64(len(keys)))
	for i, one := range keys {
		all = append(append(all, one...), unsigned(1))
		told += mustEncode(t, one...) + "\x01"
		for j, other := range keys {
			pair := slices.Concat(list(mapItem(2)), one, nested(2), other, nested(1))
			written := "\xa2" + mustEncode(t, one...) + "\x81\x01" + mustEncode(t, other...) + "\x01"
			if i < j {
				mustStand(t, written, pair...)
				continue
			}
			mustNotEncode(t, api.ErrOrder, pair...)
			mustNotDecode(t, api.ErrOrder, written)
		}
	}
	mustStand(t, told, all...)
}

func TestKeysRiseEverywhere(t *testing.T) {
	wrong := list(mapItem(2), unsigned(2), unsigned(1), unsigned(1), unsigned(1))
	const told = "\xa2\x02\x01\x01\x01"
	for _, c := range []struct {
		ahead  []api.Item
		told   string
		behind []api.Item
		rest   string
	}{
		{nil, "", nil, ""},
		{list(array(1)), "\x81", nil, ""},
		{list(array(2), unsigned(1)), "\x82\x01", nil, ""},
		{list(tag(5)), "\xc5", nil, ""},
		{list(mapItem(1)), "\xa1", list(unsigned(1)), "\x01"},
		{list(mapItem(1), unsigned(1)), "\xa1\x01", nil, ""},
		{list(mapItem(3), unsigned(1), unsigned(1), unsigned(2), unsigned(1), unsigned(3)), "\xa3\x01\x01\x02\x01\x03", nil, ""},
	} {
		mustNotEncode(t, api.ErrOrder, slices.Concat(c.ahead, wrong, c.behind)...)
		mustNotDecode(t, api.ErrOrder, c.told+told+c.rest)
	}
	// The last pair of many is looked at too.
	mustNotEncode(t, api.ErrOrder, mapItem(3), unsigned(1), unsigned(1), unsigned(3), unsigned(1), unsigned(3), unsigned(1))
	mustNotDecode(t, api.ErrOrder, "\xa3\x01\x01\x03\x01\x02\x01")
	// What a key stands for is no key.
	mustStand(t, "\xa2\x01\x09\x02\x00", mapItem(2), unsigned(1), unsigned(9), unsigned(2), unsigned(0))
}

func TestTagsSuit(t *testing.T) {
	nine := "\x01\x00\x00\x00\x00\x00\x00\x00\x00"
	takes := func(n uint64, in ...api.Item) {
		t.Helper()
		mustStand(t, headBytes(6, sizeFor(n), n)+mustEncode(t, in...), append(list(tag(n)), in...)...)
	}
	refuses := func(n uint64, in ...api.Item) {
		t.Helper()
		value := append(list(tag(n)), in...)
		mustNotEncode(t, api.ErrTag, value...)
		mustNotEncode(t, api.ErrTag, append(list(array(2), unsigned(1)), value...)...)
		mustNotEncode(t, api.ErrTag, append(append(list(mapItem(1)), value...), unsigned(1))...)
		if told, e := Encode(in); e == api.OK {
			mustNotDecode(t, api.ErrTag, headBytes(6, sizeFor(n), n)+told)
			mustNotDecode(t, api.ErrTag, "\xa1\x01"+headBytes(6, sizeFor(n), n)+told)
		}
	}
	takes(1, unsigned(0))
	takes(1, unsigned(1<<64-1))
	takes(1, negative(5))
	for _, x := range []float64{0, 1.5, -1.5, 1.1, math.MaxFloat64, 0x1p-1074} {
		takes(1, float(x))
	}
	refuses(1, float(math.Inf(1)))
	refuses(1, float(math.Inf(-1)))
	refuses(1, floatBits(noNumber))
	for _, n := range []uint64{2, 3} {
		takes(n, byteItem(nine))
		takes(n, byteItem(strings.Repeat("\xff", 300)))
		refuses(n, byteItem(""))
		refuses(n, byteItem(nine[:8]))
		refuses(n, byteItem("\x00"+nine))
		refuses(n, textItem(nine))
	}
	takes(18, array(4), unsigned(1), array(1), unsigned(1), unsigned(3), unsigned(4))
	refuses(18, flat(4)...)
	refuses(18, flat(6)...)
	refuses(18, array(0))
	refuses(18, mapItem(4), unsigned(1), unsigned(1), unsigned(2), unsigned(1), unsigned(3), unsigned(1), unsigned(4), unsigned(1))
	refuses(18, append(list(tag(5)), flat(5)...)...)
	refuses(24, textItem("\x01"))
	takes(32, textItem("a"))
	takes(32, textItem("!"))
	takes(32, textItem("http://é\x7f"))
	for _, s := range []string{"", " ", "a b", "a\x00", "\na", "a\x1f", "a\t"} {
		refuses(32, textItem(s))
	}
	refuses(32, byteItem("a"))
	for _, n := range []uint64{0, 1, 2, 3, 18, 24, 32} {
		for _, in := range []api.Item{simple(22), array(0), mapItem(0), textItem("a b"), byteItem("")} {
			refuses(n, in)
		}
		refuses(n, tag(5), unsigned(1))
	}
	for _, n := range []uint64{0, 2, 3, 18, 24, 32} {
		for _, in := range []api.Item{unsigned(1), negative(1), float(1.5)} {
			refuses(n, in)
		}
	}
	for _, n := range []uint64{4, 5, 17, 19, 23, 25, 31, 33, 98, 256, 256 + 18, 55798, 55800, 1 << 32, 1<<32 + 1, 1<<64 - 1} {
		for _, in := range someValues() {
			takes(n, in...)
		}
	}
}

func TestTagOfDates(t *testing.T) {
	for _, s := range []string{"2013-03-21T20:04:00Z", "0000-01-01T00:00:00Z", "9999-12-31T23:59:59Z", "2023-02-31T09:09:09Z", "2000-10-10T19:19:19Z"} {
		mustStand(t, "\xc0\x74"+s, tag(0), textItem(s))
		mustNotEncode(t, api.ErrTag, tag(0), byteItem(s))
		mustNotDecode(t, api.ErrTag, "\xc0\x54"+s)
		for i := range s {
			for _, b := range []byte("/:;zZtT -+.\x00\x7f") {
				if other := s[:i] + string(rune(b)) + s[i+1:]; other != s {
					mustNotEncode(t, api.ErrTag, tag(0), textItem(other))
					mustNotDecode(t, api.ErrTag, "\xc0\x74"+other)
				}
			}
			mustNotEncode(t, api.ErrTag, tag(0), textItem(s[:i]))
			mustNotEncode(t, api.ErrTag, tag(0), textItem(s[:i]+s[i+1:]))
		}
		mustNotEncode(t, api.ErrTag, tag(0), textItem(s+" "))
		mustNotEncode(t, api.ErrTag, tag(0), textItem("0"+s))
		mustNotEncode(t, api.ErrTag, tag(0), textItem(s+s))
	}
	for _, s := range []string{"2013-00-21T20:04:00Z", "2013-13-21T20:04:00Z", "2013-20-21T20:04:00Z", "2013-03-00T20:04:00Z", "2013-03-32T20:04:00Z", "2013-03-21T24:04:00Z", "2013-03-21T20:60:00Z", "2013-03-21T20:04:60Z", "2013-03-21T20:04:99Z", "2013-03-21T20:04:0éZ", "2013-03-21T20:04:00.5Z", "2013-03-21T20:04:00+00:00", "2013-03-21"} {
		mustNotEncode(t, api.ErrTag, tag(0), textItem(s))
		mustNotDecode(t, api.ErrTag, "\xc0"+headBytes(3, sizeFor(uint64(len(s))), uint64(len(s)))+s)
	}
}

func TestTagOfWrittenValues(t *testing.T) {
	for _, in := range someValues() {
		s := mustEncode(t, in...)
		mustStand(t, "\xd8\x18"+headBytes(2, sizeFor(uint64(len(s))), uint64(len(s)))+s, tag(24), byteItem(s))
		mustNotEncode(t, api.ErrTag, tag(24), byteItem(s+"\x00"))
		mustNotEncode(t, api.ErrTag, tag(24), byteItem(s[:len(s)-1]))
	}
	for _, s := range []string{"", "\x18\x01", "\xff", "\xa2\x01\x01\x01\x01", "\xc0\x01", "\x81\xd9\xd9\xf7\x01", "\xd8\x18\x41\xff", strings.Repeat("\x81", 64) + "\x01", "\x99\x02\x58" + strings.Repeat("\x01", 600), "\x59\x0f\xfe" + strings.Repeat("x", 4094)} {
		mustNotEncode(t, api.ErrTag, tag(24), byteItem(s))
		mustNotEncode(t, api.ErrTag, array(2), unsigned(1), tag(24), byteItem(s))
	}
	// Depth and items begin anew inside, and the first item there is a first one.
	mustStand(t, "\xd8\x18\x58\x40"+strings.Repeat("\x81", 63)+"\x01", tag(24), byteItem(strings.Repeat("\x81", 63)+"\x01"))
	mustStand(t, "\xd8\x18\x44\xd9\xd9\xf7\x01", tag(24), byteItem("\xd9\xd9\xf7\x01"))
}

func TestTagOfWrittenValuesManyTimesOver(t *testing.T) {
	s, levels := "\x01", 0
	for {
		wrapped := "\xd8\x18" + headBytes(2, sizeFor(uint64(len(s))), uint64(len(s))) + s
		if len(wrapped) > 4096 {
			break
		}
		s, levels = wrapped, levels+1
	}
	if got, e := Decode(s); len(got) != 2 || e != api.OK || levels < 800 {
		t.Errorf("P9: Decode of %d levels gives %d items, %d", levels, len(got), e)
	}
	mustNotDecode(t, api.ErrTag, s[:len(s)-1]+"\xff")
	many := slices.Repeat(list(tag(24), byteItem(s)), 299)
	mustNotEncode(t, api.ErrLong, append(list(array(299)), many...)...)
}

func TestTagThatStandsFirst(t *testing.T) {
	const first = "\xd9\xd9\xf7"
	mustStand(t, first+"\xa0", tag(55799), mapItem(0))
	mustStand(t, first+"\xc5\x01", tag(55799), tag(5), unsigned(1))
	mustNotEncode(t, api.ErrTag, tag(55799), tag(55799), unsigned(1))
	mustNotDecode(t, api.ErrTag, first+first+"\x01")
	mustNotEncode(t, api.ErrTag, tag(5), tag(55799), unsigned(1))
	mustNotDecode(t, api.ErrTag, "\xc5"+first+"\x01")
	mustNotEncode(t, api.ErrTag, array(1), tag(55799), unsigned(1))
	mustNotDecode(t, api.ErrTag, "\x81"+first+"\x01")
	mustNotEncode(t, api.ErrTag, mapItem(1), tag(55799), unsigned(1), unsigned(1))
	mustNotDecode(t, api.ErrTag, "\xa1"+first+"\x01\x01")
	mustNotEncode(t, api.ErrTag, tag(55799), tag(0), unsigned(1))
}

func TestCutAndGoingOn(t *testing.T) {
	mustNotEncode(t, api.ErrTruncated)
	mustNotDecode(t, api.ErrTruncated, "")
	for _, value := range append(someValues(), flat(40), nested(64)) {
		s := mustEncode(t, value...)
		for cut := range s {
			mustNotDecode(t, api.ErrTruncated, s[:cut])
		}
		for b := range 256 {
			mustNotDecode(t, api.ErrTrailing, s+string([]byte{byte(b)}))
		}
		mustNotDecode(t, api.ErrTrailing, s+s)
		for cut := range value {
			mustNotEncode(t, api.ErrTruncated, value[:cut]...)
		}
		for _, more := range []api.Item{unsigned(0), array(1), {Kind: -1}, {Kind: api.Text, S: "\xff"}} {
			mustNotEncode(t, api.ErrTrailing, append(slices.Clone(value), more)...)
		}
	}
}

func TestFirstErrorOfEncode(t *testing.T) {
	deep := func(last api.Item) []api.Item { return append(slices.Repeat(list(array(1)), 64), last) }
	wrongOrder := list(mapItem(2), unsigned(2), unsigned(1), unsigned(1), unsigned(1))
	wrongTag := list(tag(0), unsigned(1))
	long := byteItem(strings.Repeat("x", 5000))
	// More than 600 items, ahead of all else.
	mustNotEncode(t, api.ErrLong, slices.Repeat(list(api.Item{Kind: -1}), 601)...)
	mustNotEncode(t, api.ErrLong, slices.Repeat(list(array(1)), 601)...)
	mustNotEncode(t, api.ErrTrailing, slices.Repeat(list(unsigned(1)), 600)...)
	// Of two items, the first; ahead of it, what is missing.
	mustNotEncode(t, api.ErrText, array(3), textItem("\xff"), simple(24))
	mustNotEncode(t, api.ErrReserved, array(3), simple(24), textItem("\xff"))
	mustNotEncode(t, api.ErrFloat, array(3), floatBits(1+noNumber), api.Item{Kind: 9})
	mustNotEncode(t, api.ErrText, array(5), textItem("\xff"))
	mustNotEncode(t, api.ErrTruncated, array(2), unsigned(1))
	// At one item: ErrArg, ErrReserved, ErrFloat, ErrText, ErrDepth.
	mustNotEncode(t, api.ErrArg, api.Item{Kind: api.Simple, N: 24, S: "x"})
	mustNotEncode(t, api.ErrArg, api.Item{Kind: api.Float, N: 1 + noNumber, S: "x"})
	mustNotEncode(t, api.ErrArg, api.Item{Kind: api.Text, N: 1, S: "\xff"})
	mustNotEncode(t, api.ErrArg, deep(api.Item{Kind: 9})...)
	mustNotEncode(t, api.ErrReserved, deep(simple(24))...)
	mustNotEncode(t, api.ErrFloat, deep(floatBits(1+noNumber))...)
	mustNotEncode(t, api.ErrText, deep(textItem("\xff"))...)
	mustNotEncode(t, api.ErrDepth, deep(unsigned(1))...)
	mustNotEncode(t, api.ErrDepth, deep(array(1))...)
	// Behind the items: ErrTrailing, ErrOrder, ErrTag, ErrLong.
	mustNotEncode(t, api.ErrDepth, append(deep(unsigned(1)), unsigned(1))...)
	mustNotEncode(t, api.ErrTrailing, append(slices.Clone(wrongOrder), unsigned(1))...)
	mustNotEncode(t, api.ErrTrailing, append(slices.Clone(wrongTag), long)...)
	mustNotEncode(t, api.ErrText, slices.Concat(list(array(2)), wrongOrder, list(textItem("\xff")))...)
	mustNotEncode(t, api.ErrText, slices.Concat(list(array(2)), wrongTag, list(textItem("\xff")))...)
	mustNotEncode(t, api.ErrOrder, slices.Concat(list(array(2)), wrongTag, wrongOrder)...)
	mustNotEncode(t, api.ErrOrder, slices.Concat(list(array(2), long), wrongOrder)...)
	mustNotEncode(t, api.ErrTag, slices.Concat(list(array(2), long), wrongTag)...)
	mustNotEncode(t, api.ErrLong, array(2), long, unsigned(1))
	mustNotEncode(t, api.ErrTag, tag(24), long)
}

func TestFirstErrorOfDecode(t *testing.T) {
	deep := strings.Repeat("\x81", 64)
	const wrongOrder, wrongTag = "\xa2\x02\x01\x01\x01", "\xc0\x01"
	mustNotDecode(t, api.ErrLong, "\x1c"+strings.Repeat("\x00", 4096))
	// The 601st item, ahead of what is wrong with it, and behind that it is missing.
	many := "\x99\x02\x58" + strings.Repeat("\x01", 599)
	mustNotDecode(t, api.ErrTruncated, many)
	for _, last := range []string{"\x01", "\x1c", "\x1f", "\x18", "\x18\x01", "\xf8\x18", "\x61\xff", "\x61"} {
		mustNotDecode(t, api.ErrLong, many+last)
		mustNotDecode(t, api.ErrDepth, deep+last)
	}
	mustNotDecode(t, api.ErrDepth, "\x99\x02\x58"+strings.Repeat("\x01", 535)+deep)
	mustNotDecode(t, api.ErrLong, "\x99\x02\x58"+strings.Repeat("\x01", 536)+deep)
	// Of two items, the first.
	mustNotDecode(t, api.ErrShortest, "\x82\x18\x17\x1f")
	mustNotDecode(t, api.ErrIndefinite, "\x82\x1f\x18\x17")
	mustNotDecode(t, api.ErrText, "\x82\x61\xff\x1c")
	mustNotDecode(t, api.ErrReserved, "\x82\x1c\x61\xff")
	mustNotDecode(t, api.ErrFloat, "\x82\xfa\x3f\xc0\x00\x00\x1c")
	// At one item: the number's bytes, its length, the bytes behind, UTF-8.
	mustNotDecode(t, api.ErrTruncated, "\x19\x00")
	mustNotDecode(t, api.ErrTruncated, "\xf8")
	mustNotDecode(t, api.ErrTruncated, "\xfb\x3f\xf8\x00\x00\x00\x00\x00")
	mustNotDecode(t, api.ErrShortest, "\x79\x00\x02\xff")
	mustNotDecode(t, api.ErrShortest, "\x58\x17")
	mustNotDecode(t, api.ErrTruncated, "\x62\xff")
	mustNotDecode(t, api.ErrTruncated, "\x78\x18\xff")
	// Behind the items: ErrTrailing, ErrOrder, ErrTag.
	mustNotDecode(t, api.ErrTrailing, wrongOrder+"\x00")
	mustNotDecode(t, api.ErrTrailing, wrongTag+"\x1c")
	mustNotDecode(t, api.ErrText, "\x82"+wrongOrder+"\x61\xff")
	mustNotDecode(t, api.ErrTruncated, "\x83"+wrongOrder+wrongTag)
	mustNotDecode(t, api.ErrOrder, "\x82"+wrongTag+wrongOrder)
	mustNotDecode(t, api.ErrOrder, "\x82"+wrongOrder+wrongTag)
	mustNotDecode(t, api.ErrTag, "\x82\x01"+wrongTag)
	mustNotDecode(t, api.ErrTag, "\xd8\x18\x45"+wrongOrder)
}

// overlap says whether two texts lie, at least in part, in the same memory.
func overlap(a, b string) bool {
	if a == "" || b == "" {
		return false
	}
	from, to := uintptr(unsafe.Pointer(unsafe.StringData(a))), uintptr(unsafe.Pointer(unsafe.StringData(b)))
	return from < to+uintptr(len(b)) && to < from+uintptr(len(a))
}

func TestValuesAreNewMemory(t *testing.T) {
	value := list(array(3), byteItem(sample(100)), textItem("text"), tag(24), byteItem("\x43abc"))
	s := mustEncode(t, value...)
	first, _ := Decode(s)
	for _, item := range first {
		if overlap(item.S, s) {
			t.Errorf("P2: Decode keeps the bytes of its argument in %v", item)
		}
	}
	clear(first[:cap(first)])
	second, e := Decode(s)
	if !slices.Equal(second, value) || e != api.OK {
		t.Errorf("P2: Decode(%x) = %v, %d once the first answer was written into", s, second, e)
	}
	one := strings.Repeat("x", 50)
	if s := mustEncode(t, byteItem(one)); overlap(s, one) {
		t.Errorf("P2: Encode keeps the bytes of its argument")
	}
}

func TestChangedArgumentsChangeNothing(t *testing.T) {
	memory := []byte("\x82\x43abc\x63def")
	value, e := Decode(unsafe.String(&memory[0], len(memory)))
	if e != api.OK {
		t.Fatalf("P9: Decode(%x) = %d", memory, e)
	}
	clear(memory)
	if want := list(array(2), byteItem("abc"), textItem("def")); !slices.Equal(value, want) {
		t.Errorf("P2: what Decode answered has become %v, want %v", value, want)
	}
	s := mustEncode(t, value...)
	clear(value)
	if s != "\x82\x43abc\x63def" {
		t.Errorf("P2: what Encode answered has become %x", s)
	}
}

// Texts may be shared by many items: to write them all would take more memory than there is.
func TestLongTextsAreNotWritten(t *testing.T) {
	long := strings.Repeat("x", 1<<26)
	mustNotEncode(t, api.ErrLong, append(list(array(599)), slices.Repeat(list(byteItem(long)), 599)...)...)
	keys := list(mapItem(299))
	for i := range 299 {
		keys = append(keys, byteItem(long[:1<<25+i]), byteItem(long))
	}
	mustNotEncode(t, api.ErrLong, keys...)
	keys[1].S += "x"
	mustNotEncode(t, api.ErrOrder, keys...)
	mustNotEncode(t, api.ErrTag, append(list(array(2), tag(24)), slices.Repeat(list(byteItem(long)), 2)...)...)
	mustNotDecode(t, api.ErrLong, long)
}
