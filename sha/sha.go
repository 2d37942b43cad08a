// Package sha is layer 1: SHA-256. It is specified in shared/doc/01-sha.md.
package sha

import (
	"bytes"
	"slices"

	"macaroon/api"
)

// New returns the state before the first byte.
func New() api.Hash { return api.Hash{H: initial} }

// Write returns the state after the bytes b.
func Write(h api.Hash, b []byte) api.Hash {
	h.Len += len(b)
	data := b
	if len(h.Rest) > 0 {
		data = slices.Concat(h.Rest, b)
	}
	for len(data) >= blockSize {
		h.H = compress(h.H, [blockSize]byte(data[:blockSize]))
		data = data[blockSize:]
	}
	// A clone, since data may be a part of the caller's b.
	h.Rest = bytes.Clone(data)
	return h
}

// Sum returns the digest of all bytes that were written.
func Sum(h api.Hash) api.Tag {
	last := Write(h, padding(h.Len))
	var digest []byte
	for _, x := range last.H {
		digest = appendNumber(digest, uint64(x), 4)
	}
	return api.Tag(digest)
}

// Of returns the digest of b.
func Of(b []byte) api.Tag { return Sum(Write(New(), b)) }

// padding returns what stands behind a message of length bytes.
func padding(length int) []byte {
	// 119 is 55 modulo 64, and large enough that the difference is positive even for a negative length.
	zeros := (119 - length%blockSize) % blockSize
	p := append([]byte{128}, make([]byte, zeros)...)
	return appendNumber(p, uint64(length)*8, 8)
}

// appendNumber appends the last size bytes of n, the most significant one first.
func appendNumber(b []byte, n uint64, size int) []byte {
	for i := range size {
		b = append(b, byte(n>>(8*(size-1-i))))
	}
	return b
}
