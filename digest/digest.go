// Package digest makes digests of 256 and of 512 bits, by one code over words of 32 or of 64 bits.
package digest

import (
	"math/bits"
	"strings"
)

// Word is what a digest is made of: eight words of 32 bits are a digest of 256 bits, eight of 64 bits one of 512.
type Word interface {
	uint32 | uint64
}

const blockWords = 16

// Running is a digest in the making, of either width. It is a value that never changes: With answers another one.
type Running interface {
	With(s string) Running
	Sum() string
}

type running[W Word] struct {
	state [8]W
	tail  string // bytes that do not fill a block yet
	count uint64 // all bytes taken in
}

// Begin is the digest in the making that has taken in nothing.
func Begin[W Word]() Running {
	var r running[W]
	for i := range r.state {
		r.state[i] = firstBits[W](squareRoots[i])
	}
	return r
}

// With is the digest in the making that has taken in s too.
func (r running[W]) With(s string) Running { return r.behind(s) }

// Sum is the digest of all that was taken in.
func (r running[W]) Sum() string {
	whole := r.behind(padding[W](r.count))
	return bytesOf(whole.state[:]...)
}

func (r running[W]) behind(s string) running[W] {
	r.count += uint64(len(s))
	size := blockSize[W]()
	first := min(len(s), size-len(r.tail))
	block, rest := r.tail+s[:first], s[first:]
	for len(block) == size {
		r.state = mixed(r.state, wordsOf[W](block))
		next := min(len(rest), size)
		block, rest = rest[:next], rest[next:]
	}
	// A piece of s would keep the caller's bytes.
	r.tail = strings.Clone(block)
	return r
}

// padding is what comes behind count bytes to make whole blocks of them.
func padding[W Word](count uint64) string {
	high, low := W(count>>(width[W]()-3)), W(count<<3)
	told := bytesOf(high, low)
	size := blockSize[W]()
	used := int(count%uint64(size)) + 1 + len(told)
	zeros := (2*size - used) % size
	return "\x80" + strings.Repeat("\x00", zeros) + told
}

func width[W Word]() uint { return uint(bits.Len64(uint64(^W(0)))) }

func wordSize[W Word]() int { return int(width[W]() / 8) }

func blockSize[W Word]() int { return blockWords * wordSize[W]() }

func firstBits[W Word](root uint64) W { return W(root >> (64 - width[W]())) }

func wordsOf[W Word](block string) [blockWords]W {
	var words [blockWords]W
	size := wordSize[W]()
	for i := range words {
		for _, b := range []byte(block[i*size : (i+1)*size]) {
			words[i] = words[i]<<8 | W(b)
		}
	}
	return words
}

func bytesOf[W Word](words ...W) string {
	var out []byte
	for _, w := range words {
		for i := wordSize[W]() - 1; i >= 0; i-- {
			out = append(out, byte(w>>(8*i)))
		}
	}
	return string(out)
}
