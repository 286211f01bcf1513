// Package signing makes public keys of seeds, signs with seeds, and looks whether signatures suit keys.
package signing

import (
	"signet/api"
	"signet/curve"
	"signet/digest"
)

// secret is what a seed stands for.
type secret struct {
	factor curve.Scalar // the key is so many times the base
	prefix string
	key    string
}

// PublicKey is the public key of a seed.
func PublicKey(seed string) (string, api.Errno) {
	if len(seed) != api.SeedSize {
		return "", api.ErrArg
	}
	return secretOf(seed).key, api.OK
}

// Sign is the signature of a message.
func Sign(seed string, message string) (string, api.Errno) {
	if len(seed) != api.SeedSize {
		return "", api.ErrArg
	}
	own := secretOf(seed)
	r := numberOf(own.prefix, message)
	first := curve.Base().Times(r).Bytes()
	k := numberOf(first, own.key, message)
	return first + k.Times(own.factor).Plus(r).Bytes(), api.OK
}

// Verify looks whether a signature of a message suits a key.
func Verify(key string, message string, signature string) api.Errno {
	if len(key) != api.KeySize || len(signature) != api.SignSize {
		return api.ErrArg
	}
	first, last := signature[:curve.Size], signature[curve.Size:]
	point, isPoint := curve.PointOf(key)
	s, isBelow := curve.ScalarOf(last)
	if !isPoint || !isBelow {
		return api.ErrSignature
	}
	k := numberOf(first, key, message)
	if curve.Multiples(s, curve.Base(), k, point.Negative()).Bytes() != first {
		return api.ErrSignature
	}
	return api.OK
}

func secretOf(seed string) secret {
	sum := digestOf(seed)
	factor := factorOf(sum[:curve.Size])
	return secret{factor, sum[curve.Size:], curve.Base().Times(factor).Bytes()}
}

// factorOf is taken modulo L: that changes neither its multiple of the base nor a signature.
func factorOf(half string) curve.Scalar {
	told := []byte(half)
	told[0] &^= 7
	told[curve.Size-1] = told[curve.Size-1]&^128 | 64
	return curve.Reduced(string(told))
}

func numberOf(parts ...string) curve.Scalar { return curve.Reduced(digestOf(parts...)) }

// digestOf is the digest of 512 bits of the parts, one behind the other.
func digestOf(parts ...string) string {
	taken := digest.Begin[uint64]()
	for _, part := range parts {
		taken = taken.With(part)
	}
	return taken.Sum()
}
