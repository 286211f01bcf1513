// Package values writes values and reads them, in the one way in which each may be written.
package values

import "signet/api"

// source is where the items of a value come from, one after the other.
type source interface {
	next(depth int) (api.Item, api.Errno)
	isEmpty() bool
}

// valueOf is the value that a source has, in new memory.
func valueOf(from source) ([]api.Item, api.Errno) {
	value, errno := appendNext(nil, from, 1)
	switch {
	case errno != api.OK:
	case !from.isEmpty():
		errno = api.ErrTrailing
	case !isRising(value):
		errno = api.ErrOrder
	case !isTaggedWell(value):
		errno = api.ErrTag
	default:
		return value, api.OK
	}
	return nil, errno
}

// appendNext takes one item, and what is in it.
func appendNext(value []api.Item, from source, depth int) ([]api.Item, api.Errno) {
	item, errno := from.next(depth)
	if errno != api.OK {
		return nil, errno
	}
	value = append(value, item)
	for range countInside(item) {
		value, errno = appendNext(value, from, depth+1)
		if errno != api.OK {
			return nil, errno
		}
	}
	return value, api.OK
}

// countInside is how many values are in an item, or more than any value has.
func countInside(item api.Item) uint64 {
	switch item.Kind {
	case api.Array:
		return item.N
	case api.Map:
		// Twice a great number would wrap.
		return 2 * min(item.N, api.MaxItems)
	case api.Tag:
		return 1
	}
	return 0
}

// Inside are the values that are in a value, one by one: of a map each key, and behind it what it stands for. They are pieces of the list that is handed in, which must be one that Encode takes or Decode gave; it may go on behind the value.
func Inside(value []api.Item) [][]api.Item {
	var all [][]api.Item
	rest := value[1:]
	for range countInside(value[0]) {
		size := sizeOf(rest)
		all = append(all, rest[:size])
		rest = rest[size:]
	}
	return all
}

// sizeOf is how many items the value has with which these begin.
func sizeOf(items []api.Item) int {
	size := 0
	for missing := uint64(1); missing > 0; missing-- {
		missing += countInside(items[size])
		size++
	}
	return size
}
