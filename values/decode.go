package values

import (
	"strings"
	"unicode/utf8"

	"signet/api"
)

// Decode is the value that is written so.
func Decode(s string) ([]api.Item, api.Errno) {
	value, errno := read(s)
	for i, item := range value {
		// A piece of s would keep the caller's bytes.
		value[i].S = strings.Clone(item.S)
	}
	return value, errno
}

// read is Decode, but that the items' texts are pieces of s.
func read(s string) ([]api.Item, api.Errno) {
	if len(s) > api.MaxBytes {
		return nil, api.ErrLong
	}
	return valueOf(&text{rest: s})
}

// text is a source: items as they are written.
type text struct {
	rest  string
	count int // of the items that were told
}

func (t *text) isEmpty() bool { return t.rest == "" }

func (t *text) next(depth int) (api.Item, api.Errno) {
	switch {
	case t.isEmpty():
		return api.Item{}, api.ErrTruncated
	case t.count == api.MaxItems:
		return api.Item{}, api.ErrLong
	case depth > api.MaxDepth:
		return api.Item{}, api.ErrDepth
	}
	t.count++
	h, behind, errno := readHead(t.rest)
	if errno != api.OK {
		return api.Item{}, errno
	}
	t.rest = behind
	switch h.kind {
	case otherHead:
		return simpleOrFloat(h)
	case bytesHead, textHead:
		return t.bytesBehind(h)
	}
	return api.Item{Kind: itemKinds[h.kind], N: h.number}, faultOfLength(h)
}

func faultOfLength(h head) api.Errno {
	if shortest(h.kind, h.number) != h {
		return api.ErrShortest
	}
	return api.OK
}

func simpleOrFloat(h head) (api.Item, api.Errno) {
	if h.told > inOne {
		return float(h)
	}
	if h.told == inOne && h.number < firstSimpleBehind {
		return api.Item{}, api.ErrReserved
	}
	return api.Item{Kind: api.Simple, N: h.number}, api.OK
}

func float(h head) (api.Item, api.Errno) {
	number := floatOf(h)
	if !mayBeFloat(number) || floatHead(number) != h {
		return api.Item{}, api.ErrFloat
	}
	return api.Item{Kind: api.Float, N: number}, api.OK
}

// bytesBehind is the item of Bytes or Text that has this head.
func (t *text) bytesBehind(h head) (api.Item, api.Errno) {
	if errno := faultOfLength(h); errno != api.OK {
		return api.Item{}, errno
	}
	if uint64(len(t.rest)) < h.number {
		return api.Item{}, api.ErrTruncated
	}
	item := api.Item{Kind: itemKinds[h.kind], S: t.rest[:h.number]}
	t.rest = t.rest[h.number:]
	if item.Kind == api.Text && !utf8.ValidString(item.S) {
		return api.Item{}, api.ErrText
	}
	return item, api.OK
}
