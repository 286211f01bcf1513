// Package values writes values and reads them, in the one way in which each may be written.
package values

import "signet/api"

// value is a whole value: its items and, of each of them, where what is in it ends.
type value struct {
	items []api.Item
	ends  []int
}

// source is where the items of a value come from, one after the other.
type source interface {
	next(depth int) (api.Item, api.Errno)
	isEmpty() bool
}

// valueOf is the value that a source has.
func valueOf(from source) (value, api.Errno) {
	var v value
	errno := v.take(from, 1)
	switch {
	case errno != api.OK:
	case !from.isEmpty():
		errno = api.ErrTrailing
	case !v.isRising():
		errno = api.ErrOrder
	case !v.isTaggedWell():
		errno = api.ErrTag
	default:
		return v, api.OK
	}
	return value{}, errno
}

// take takes one item, and what is in it.
func (v *value) take(from source, depth int) api.Errno {
	item, errno := from.next(depth)
	if errno != api.OK {
		return errno
	}
	at := len(v.items)
	v.items = append(v.items, item)
	v.ends = append(v.ends, at)
	for range inside(item) {
		if errno := v.take(from, depth+1); errno != api.OK {
			return errno
		}
	}
	v.ends[at] = len(v.items)
	return api.OK
}

// inside is how many values are in an item, or more than any value has.
func inside(item api.Item) uint64 {
	switch item.Kind {
	case api.Array:
		return item.N
	case api.Map:
		// Twice a great number would wrap.
		return 2 * min(item.N, api.MaxItems)
	case api.Tag:
		return 1
	}
	return 0
}
