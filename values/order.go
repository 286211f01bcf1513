package values

import (
	"bytes"
	"slices"
	"strings"

	"signet/api"
)

// isRising says whether the keys of every map rise.
func isRising(value []api.Item) bool {
	for at, item := range value {
		if item.Kind == api.Map && !keysRise(value[at:]) {
			return false
		}
	}
	return true
}

// keysRise says so of the one map with which the items begin.
func keysRise(items []api.Item) bool {
	var ahead []api.Item // nothing at all is below any key
	for pair := range slices.Chunk(Inside(items), 2) {
		key := pair[0]
		if slices.CompareFunc(ahead, key, compareWritten) >= 0 {
			return false
		}
		ahead = key
	}
	return true
}

// compareWritten compares two items by what they are written as, and writes the heads alone: the texts may be long. An item's text is as long as its head says, so none is the beginning of another.
func compareWritten(a, b api.Item) int {
	heads := bytes.Compare(headOf(a).appendTo(nil), headOf(b).appendTo(nil))
	if heads != 0 {
		return heads
	}
	return strings.Compare(a.S, b.S)
}
