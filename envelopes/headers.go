package envelopes

import (
	"slices"

	"signet/api"
	"signet/values"
)

// The labels that may not have anything, or not anywhere.
const (
	algorithmLabel uint64 = iota + 1
	criticalLabel         // which labels a reader must know
	contentLabel          // what kind of thing the payload is
	keyLabel              // by what the key is known
)

// algorithm is the number -8: the one way in which this program signs.
var algorithm = api.Item{Kind: api.Negative, N: 7}

// header is a label and what it stands for.
type header struct {
	label api.Item
	value []api.Item
}

type headers []header

// headersOf are the headers of a value. It tells, too, whether it is a map that has nothing but labels for keys.
func headersOf(value []api.Item) (headers, bool) {
	if value[0].Kind != api.Map {
		return nil, false
	}
	var all headers
	for pair := range slices.Chunk(values.Inside(value), 2) {
		label := pair[0][0]
		if !isLabel(label) {
			return nil, false
		}
		all = append(all, header{label, pair[1]})
	}
	return all, true
}

func isLabel(item api.Item) bool {
	return item.Kind == api.Unsigned || item.Kind == api.Negative || item.Kind == api.Text
}

// mayBe says whether two values may be the headers of one envelope.
func mayBe(protected, unprotected []api.Item) bool {
	signed, areHeaders := headersOf(protected)
	others, areOthers := headersOf(unprotected)
	return areHeaders && areOthers &&
		signed.has(numbered(algorithmLabel)) &&
		!others.has(numbered(criticalLabel)) &&
		!signed.overlap(others) &&
		signed.suit(signed) && others.suit(signed)
}

func numbered(label uint64) api.Item { return api.Item{Kind: api.Unsigned, N: label} }

func (all headers) has(label api.Item) bool {
	return slices.ContainsFunc(all, func(h header) bool { return h.label == label })
}

func (all headers) overlap(others headers) bool {
	return slices.ContainsFunc(all, func(h header) bool { return others.has(h.label) })
}

// suit says whether each label may have what it stands for.
func (all headers) suit(protected headers) bool {
	for _, h := range all {
		if h.label.Kind == api.Unsigned && !suits(h.label.N, h.value, protected) {
			return false
		}
	}
	return true
}

// suits says whether a numbered label may stand for a value.
func suits(label uint64, value []api.Item, protected headers) bool {
	first := value[0]
	switch label {
	case algorithmLabel:
		return first == algorithm
	case criticalLabel:
		return first.Kind == api.Array && first.N > 0 && areCritical(value[1:], protected)
	case contentLabel:
		return first.Kind == api.Text || first.Kind == api.Unsigned
	case keyLabel:
		return first.Kind == api.Bytes
	}
	return true
}

// areCritical looks at all that is in the list of critical labels: an item that has others in it is refused itself.
func areCritical(labels []api.Item, protected headers) bool {
	for _, label := range labels {
		if !mayBeCritical(label) || !protected.has(label) {
			return false
		}
	}
	return true
}

func mayBeCritical(label api.Item) bool {
	if label.Kind != api.Unsigned {
		return false
	}
	switch label.N {
	case algorithmLabel, contentLabel, keyLabel:
		return true
	}
	return false
}
