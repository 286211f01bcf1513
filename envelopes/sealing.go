package envelopes

import (
	"slices"
	"strings"

	"signet/api"
	"signet/signing"
	"signet/values"
)

// Seal signs parts with a seed, and writes their envelope.
func Seal(seed string, p api.Parts, aad string) (string, api.Errno) {
	if len(seed) != api.SeedSize {
		return "", api.ErrArg
	}
	unprotected := orEmptyMap(p.Unprotected)
	protected, errno := protectedBytes(orEmptyMap(p.Protected), unprotected)
	if errno != api.OK {
		return "", errno
	}
	e := envelope{protected: protected, unprotected: unprotected, payload: p.Payload, isDetached: p.Detached, isTagged: p.Tagged}
	message, errno := e.message(aad)
	if errno != api.OK {
		return "", errno
	}
	e.signature, errno = signing.Sign(seed, message)
	if errno != api.OK {
		return "", errno
	}
	return e.written()
}

func orEmptyMap(value []api.Item) []api.Item {
	if len(value) == 0 {
		return []api.Item{{Kind: api.Map}}
	}
	return value
}

// protectedBytes is what the protected headers are written as, if both may be.
func protectedBytes(protected, unprotected []api.Item) (string, api.Errno) {
	s, errno := values.Encode(protected)
	if errno != api.OK {
		return "", api.ErrHeader
	}
	if _, errno := values.Encode(unprotected); errno != api.OK {
		return "", api.ErrHeader
	}
	if !mayBe(protected, unprotected) {
		return "", api.ErrHeader
	}
	return s, api.OK
}

// Open takes an envelope apart, if its signature suits the key.
func Open(key string, s string, payload string, detached bool, aad string) (api.Parts, api.Errno) {
	if len(key) != api.KeySize {
		return api.Parts{}, api.ErrArg
	}
	e, errno := read(s)
	if errno != api.OK {
		return api.Parts{}, errno
	}
	protected, errno := values.Decode(e.protected)
	if errno != api.OK || !mayBe(protected, e.unprotected) {
		return api.Parts{}, api.ErrHeader
	}
	if detached != e.isDetached {
		return api.Parts{}, api.ErrPayload
	}
	if detached {
		e.payload = payload
	}
	if errno := e.faultOfSignature(key, aad); errno != api.OK {
		return api.Parts{}, errno
	}
	return e.parts(protected), api.OK
}

func (e envelope) faultOfSignature(key, aad string) api.Errno {
	message, errno := e.message(aad)
	if errno != api.OK {
		return errno
	}
	return signing.Verify(key, message, e.signature)
}

// parts copies what is still a piece of something else: of the envelope's list, or the payload that was handed in.
func (e envelope) parts(protected []api.Item) api.Parts {
	return api.Parts{
		Protected:   protected,
		Unprotected: slices.Clone(e.unprotected),
		Payload:     strings.Clone(e.payload),
		Detached:    e.isDetached,
		Tagged:      e.isTagged,
	}
}
