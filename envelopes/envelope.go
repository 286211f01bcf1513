// Package envelopes lays headers, a payload and its signature together, and takes them apart again.
package envelopes

import (
	"signet/api"
	"signet/values"
)

var (
	tagged = api.Item{Kind: api.Tag, N: values.EnvelopeTag}
	four   = api.Item{Kind: api.Array, N: 4}
	null   = api.Item{Kind: api.Simple, N: 22} // in the place of a payload that is elsewhere
)

// envelope is what stands in an envelope, and the payload that may stand elsewhere.
type envelope struct {
	protected   string // as they are written
	unprotected []api.Item
	payload     string
	signature   string
	isDetached  bool
	isTagged    bool
}

func bytesOf(s string) api.Item { return api.Item{Kind: api.Bytes, S: s} }

// message is what is signed. There are too few items for any error but ErrLong.
func (e envelope) message(aad string) (string, api.Errno) {
	context := api.Item{Kind: api.Text, S: "Signature1"}
	return values.Encode([]api.Item{four, context, bytesOf(e.protected), bytesOf(aad), bytesOf(e.payload)})
}

// written is what the envelope is written as.
func (e envelope) written() (string, api.Errno) {
	var items []api.Item
	if e.isTagged {
		items = append(items, tagged)
	}
	items = append(items, four, bytesOf(e.protected))
	items = append(items, e.unprotected...)
	payload := bytesOf(e.payload)
	if e.isDetached {
		payload = null
	}
	return values.Encode(append(items, payload, bytesOf(e.signature)))
}

// read is the envelope that is written so, without a payload that is elsewhere.
func read(s string) (envelope, api.Errno) {
	value, errno := values.Decode(s)
	if errno != api.OK {
		return envelope{}, errno
	}
	isTagged := value[0] == tagged
	if isTagged {
		value = value[1:]
	}
	if value[0] != four {
		return envelope{}, api.ErrShape
	}
	inside := values.Inside(value)
	protected, unprotected, payload, signature := inside[0][0], inside[1], inside[2][0], inside[3][0]
	if !haveShape(protected, unprotected[0], payload, signature) {
		return envelope{}, api.ErrShape
	}
	return envelope{protected.S, unprotected, payload.S, signature.S, payload == null, isTagged}, api.OK
}

// haveShape says whether the values that begin so are those of an envelope.
func haveShape(protected, unprotected, payload, signature api.Item) bool {
	return protected.Kind == api.Bytes &&
		unprotected.Kind == api.Map &&
		(payload.Kind == api.Bytes || payload == null) &&
		signature.Kind == api.Bytes && len(signature.S) == api.SignSize
}
