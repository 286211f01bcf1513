package values

import (
	"math"

	"signet/api"
)

// The kinds of heads, as they stand in the highest three bits.
const (
	unsignedHead byte = iota
	negativeHead
	bytesHead
	textHead
	arrayHead
	mapHead
	tagHead
	otherHead // Simple and Float
)

// What stands in the lowest five bits of a head whose number is not there.
const (
	inOne   byte = iota + 24 // the number is in the one byte behind
	inTwo                    // .. in two
	inFour                   // .. in four
	inEight                  // .. in eight
	_
	_
	_
	indefinite // those between mean nothing
)

const (
	toldBits = 5
	toldMask = 1<<toldBits - 1

	firstSimpleBehind = 32 // the first Simple that stands in the byte behind
)

var headKinds = [...]byte{
	api.Unsigned: unsignedHead,
	api.Negative: negativeHead,
	api.Bytes:    bytesHead,
	api.Text:     textHead,
	api.Array:    arrayHead,
	api.Map:      mapHead,
	api.Tag:      tagHead,
	api.Simple:   otherHead,
	api.Float:    otherHead,
}

var itemKinds = [...]int{
	unsignedHead: api.Unsigned,
	negativeHead: api.Negative,
	bytesHead:    api.Bytes,
	textHead:     api.Text,
	arrayHead:    api.Array,
	mapHead:      api.Map,
	tagHead:      api.Tag,
	otherHead:    api.Simple,
}

// head is a head: told is the number itself, or where it stands.
type head struct {
	kind   byte
	told   byte
	number uint64
}

// headOf is the one head that an item may have.
func headOf(item api.Item) head {
	switch item.Kind {
	case api.Bytes, api.Text:
		return shortest(headKinds[item.Kind], uint64(len(item.S)))
	case api.Float:
		return floatHead(item.N)
	}
	return shortest(headKinds[item.Kind], item.N)
}

// shortest is the head that tells a number in as few bytes as may be.
func shortest(kind byte, number uint64) head {
	told := inEight
	switch {
	case number < uint64(inOne):
		told = byte(number)
	case number <= math.MaxUint8:
		told = inOne
	case number <= math.MaxUint16:
		told = inTwo
	case number <= math.MaxUint32:
		told = inFour
	}
	return head{kind, told, number}
}

// appendTo writes a head behind out.
func (h head) appendTo(out []byte) []byte {
	out = append(out, h.kind<<toldBits|h.told)
	n := h.number
	switch h.told {
	case inEight:
		out = append(out, byte(n>>56), byte(n>>48), byte(n>>40), byte(n>>32))
		fallthrough
	case inFour:
		out = append(out, byte(n>>24), byte(n>>16))
		fallthrough
	case inTwo:
		out = append(out, byte(n>>8))
		fallthrough
	case inOne:
		out = append(out, byte(n))
	}
	return out
}

// readHead reads the head with which s, which has a byte, begins. It tells what stands behind the head, too.
func readHead(s string) (head, string, api.Errno) {
	h := head{kind: s[0] >> toldBits, told: s[0] & toldMask}
	switch {
	case h.told == indefinite:
		return head{}, "", api.ErrIndefinite
	case h.told > inEight:
		return head{}, "", api.ErrReserved
	}
	size, behind := sizeBehind(h.told), s[1:]
	if len(behind) < size {
		return head{}, "", api.ErrTruncated
	}
	h.number = uint64(h.told)
	if size > 0 {
		h.number = numberOf(behind[:size])
	}
	return h, behind[size:], api.OK
}

// sizeBehind is how many bytes of a head stand behind its first one.
func sizeBehind(told byte) int {
	size := 0
	switch told {
	case inEight:
		size += 4
		fallthrough
	case inFour:
		size += 2
		fallthrough
	case inTwo:
		size++
		fallthrough
	case inOne:
		size++
	}
	return size
}

func numberOf(s string) uint64 {
	var number uint64
	for _, b := range []byte(s) {
		number = number<<8 | uint64(b)
	}
	return number
}
