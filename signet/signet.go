// Package signet: digests, signatures, values, envelopes: see DOC.md.
package signet

import (
	"signet/api"
	"signet/digest"
	"signet/envelopes"
	"signet/signing"
	"signet/values"
)

// Hash is a digest in the making.
type Hash struct {
	taken digest.Running
}

// New begins a digest (P3).
func New(bits int) (*Hash, api.Errno) {
	switch bits {
	case 256:
		return &Hash{digest.Begin[uint32]()}, api.OK
	case 512:
		return &Hash{digest.Begin[uint64]()}, api.OK
	}
	return nil, api.ErrArg
}

// Write takes bytes in (P3).
func (h *Hash) Write(s string) { h.taken = h.taken.With(s) }

// Sum is the digest of what was taken in (P3).
func (h *Hash) Sum() string { return h.taken.Sum() }

// PublicKey is the public key of a seed (P5).
func PublicKey(seed string) (string, api.Errno) { return signing.PublicKey(seed) }

// Sign signs a message (P6).
func Sign(seed string, message string) (string, api.Errno) { return signing.Sign(seed, message) }

// Verify looks whether a signature suits (P7).
func Verify(key string, message string, signature string) api.Errno {
	return signing.Verify(key, message, signature)
}

// Encode writes a value (P8).
func Encode(value []api.Item) (string, api.Errno) { return values.Encode(value) }

// Decode reads a value (P9).
func Decode(s string) ([]api.Item, api.Errno) { return values.Decode(s) }

// Seal signs a payload and writes the envelope (P11).
func Seal(seed string, p api.Parts, aad string) (string, api.Errno) {
	return envelopes.Seal(seed, p, aad)
}

// Open reads an envelope and looks whether its signature suits (P12).
func Open(key string, envelope string, payload string, detached bool, aad string) (api.Parts, api.Errno) {
	return envelopes.Open(key, envelope, payload, detached, aad)
}
