package values

import (
	"bytes"
	"slices"
	"strings"

	"signet/api"
)

// isRising says whether the keys of every map rise.
func (v value) isRising() bool {
	for at, item := range v.items {
		if item.Kind == api.Map && !v.keysRise(at) {
			return false
		}
	}
	return true
}

func (v value) keysRise(at int) bool {
	var ahead []api.Item // nothing at all is below any key
	for key := at + 1; key < v.ends[at]; {
		behind := v.ends[key]
		own := v.items[key:behind]
		if slices.CompareFunc(ahead, own, compareWritten) >= 0 {
			return false
		}
		ahead, key = own, v.ends[behind]
	}
	return true
}

// compareWritten compares two items by what they are written as, and writes the heads alone: the texts may be long. An item's text is as long as its head says, so none is the beginning of another.
func compareWritten(a, b api.Item) int {
	heads := bytes.Compare(headOf(a).appendTo(nil), headOf(b).appendTo(nil))
	if heads != 0 {
		return heads
	}
	return strings.Compare(a.S, b.S)
}
