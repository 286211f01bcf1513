package values

import (
	"math"
	"unicode/utf8"

	"signet/api"
)

// Encode is what a value is written as.
func Encode(items []api.Item) (string, api.Errno) {
	if len(items) > api.MaxItems {
		return "", api.ErrLong
	}
	value, errno := valueOf(&list{items})
	if errno != api.OK {
		return "", errno
	}
	return written(value)
}

// written stops as soon as it is too long: the items' texts may be longer than the memory has room for.
func written(value []api.Item) (string, api.Errno) {
	var out []byte
	for _, item := range value {
		out = headOf(item).appendTo(out)
		if len(item.S) > api.MaxBytes-len(out) {
			return "", api.ErrLong
		}
		out = append(out, item.S...)
	}
	return string(out), api.OK
}

// list is a source: items that are told one by one.
type list struct {
	rest []api.Item
}

func (l *list) isEmpty() bool { return len(l.rest) == 0 }

func (l *list) next(depth int) (api.Item, api.Errno) {
	if l.isEmpty() {
		return api.Item{}, api.ErrTruncated
	}
	item := l.rest[0]
	l.rest = l.rest[1:]
	return item, faultOf(item, depth)
}

// faultOf is the first error of an item by itself.
func faultOf(item api.Item, depth int) api.Errno {
	switch {
	case !isOfItsKind(item):
		return api.ErrArg
	case item.Kind == api.Simple && !mayBeSimple(item.N):
		return api.ErrReserved
	case item.Kind == api.Float && !mayBeFloat(item.N):
		return api.ErrFloat
	case item.Kind == api.Text && !utf8.ValidString(item.S):
		return api.ErrText
	case depth > api.MaxDepth:
		return api.ErrDepth
	}
	return api.OK
}

// isOfItsKind says whether there is such a kind, and the item has only what its kind has.
func isOfItsKind(item api.Item) bool {
	switch item.Kind {
	case api.Bytes, api.Text:
		return item.N == 0
	case api.Unsigned, api.Negative, api.Array, api.Map, api.Tag, api.Simple, api.Float:
		return item.S == ""
	}
	return false
}

func mayBeSimple(n uint64) bool {
	return n < uint64(inOne) || n >= firstSimpleBehind && n <= math.MaxUint8
}
