package values

import "signet/api"

// The tags that may not have anything, or not anywhere.
const (
	dateTag     = 0
	secondsTag  = 1
	bigTag      = 2
	bigBelowTag = 3
	EnvelopeTag = 18
	encodedTag  = 24
	addressTag  = 32
	firstTag    = 55799
)

// isTaggedWell says whether every tag suits.
func isTaggedWell(value []api.Item) bool {
	for at, item := range value {
		if item.Kind != api.Tag {
			continue
		}
		if item.N == firstTag && at > 0 || !suits(item.N, value[at+1]) {
			return false
		}
	}
	return true
}

// suits says whether a tag may have an item.
func suits(tag uint64, item api.Item) bool {
	switch tag {
	case dateTag:
		return item.Kind == api.Text && isDate(item.S)
	case secondsTag:
		return item.Kind == api.Unsigned || item.Kind == api.Negative || item.Kind == api.Float && isFinite(item.N)
	case bigTag, bigBelowTag:
		return item.Kind == api.Bytes && len(item.S) > 8 && item.S[0] != 0
	case EnvelopeTag:
		return item.Kind == api.Array && item.N == 4
	case encodedTag:
		return item.Kind == api.Bytes && isValue(item.S)
	case addressTag:
		return item.Kind == api.Text && isAddress(item.S)
	}
	return true
}

func isValue(s string) bool {
	_, errno := read(s)
	return errno == api.OK
}

func isAddress(s string) bool {
	for _, b := range []byte(s) {
		if b <= ' ' {
			return false
		}
	}
	return s != ""
}

func isDate(s string) bool {
	return isLike(s, "0000-00-00T00:00:00Z") &&
		isFromTo(s[5:7], "01", "12") &&
		isFromTo(s[8:10], "01", "31") &&
		isFromTo(s[11:13], "00", "23") &&
		isFromTo(s[14:16], "00", "59") &&
		isFromTo(s[17:19], "00", "59")
}

// isLike says whether s has a digit where the pattern has one, and elsewhere what the pattern has.
func isLike(s, pattern string) bool {
	if len(s) != len(pattern) {
		return false
	}
	for i, want := range []byte(pattern) {
		if want == '0' && !isFromTo(s[i:i+1], "0", "9") || want != '0' && s[i] != want {
			return false
		}
	}
	return true
}

func isFromTo(s, from, to string) bool { return from <= s && s <= to }
