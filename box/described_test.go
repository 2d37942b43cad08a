package box_test

import (
	"bytes"
	stdhmac "crypto/hmac"
	"crypto/sha256"
	"encoding/binary"
	"slices"
	"testing"

	"macaroon/api"
	"macaroon/box"
)

// call is what a box is made of.
type call struct {
	key   api.Tag
	nonce int
	plain string
}

// described is an algebra as the chapter describes it: which boxes were made, in order. It is the second statement of the promises that the tests compare with, and it computes tags with the standard library.
type described struct {
	free  bool
	calls []call
}

// computed returns the tag of a message under a key, as the standard library computes it.
func computed(key api.Tag, message ...[]byte) api.Tag {
	h := stdhmac.New(sha256.New, key[:])
	for _, m := range message {
		h.Write(m)
	}
	return api.Tag(h.Sum(nil))
}

// eight returns n as eight bytes, the most significant one first.
func eight(n int) []byte {
	return binary.BigEndian.AppendUint64(nil, uint64(n))
}

// checked returns b followed by the check of a computed box that begins with b.
func checked(key api.Tag, b []byte) []byte {
	check := computed(key, []byte("box"), b)
	return slices.Concat(b, check[:])
}

// streamed returns the bytes of b, combined with the key stream of a computed box.
func streamed(key api.Tag, nonce []byte, b []byte) []byte {
	c := make([]byte, len(b))
	for i := range b {
		block := computed(key, []byte("stream"), nonce, eight(i/32))
		c[i] = b[i] ^ block[i%32]
	}
	return c
}

// symbolBox returns the box of the entry with the number n of a free algebra.
func symbolBox(n, size int) []byte {
	return slices.Concat([]byte("symbolb"), eight(n), make([]byte, 17), make([]byte, size+8))
}

// box returns the box of the entry with the index i.
func (d described) box(i int) []byte {
	c := d.calls[i]
	if d.free {
		return symbolBox(i+1, len(c.plain))
	}
	start := eight(c.nonce)
	return checked(c.key, slices.Concat(start, streamed(c.key, start, []byte(c.plain))))
}

// seal returns what follows d, and the box.
func (d described) seal(c call) (described, []byte, api.Errno) {
	switch {
	case c.nonce < 0 || c.nonce > 1<<48:
		return described{}, nil, api.ErrRange
	case len(c.plain) > 256:
		return described{}, nil, api.ErrLimit
	}
	i := slices.Index(d.calls, c)
	if i < 0 {
		i = len(d.calls)
		d.calls = append(slices.Clone(d.calls), c)
	}
	if len(d.calls) > 65536 {
		return described{}, nil, api.ErrLimit
	}
	return d, d.box(i), api.OK
}

// open returns what is sealed in a box.
func (d described) open(key api.Tag, b []byte) ([]byte, api.Errno) {
	if d.free {
		for i, c := range d.calls {
			if c.key == key && bytes.Equal(d.box(i), b) {
				return []byte(c.plain), api.OK
			}
		}
		return nil, api.ErrSeal
	}
	if len(b) < 40 || len(b) > 296 || !bytes.Equal(checked(key, b[:len(b)-32]), b) {
		return nil, api.ErrSeal
	}
	return streamed(key, b[:8], b[8:len(b)-32]), api.OK
}

// algebra returns d as the value that the packages have for it, with tags and a fresh key that are nothing to boxes.
func (d described) algebra() api.Algebra {
	a := api.Algebra{Free: d.free, Seed: api.Tag{3}, Fresh: 7}
	a.Macs = []api.Mac{{Key: api.Tag{4}, Message: []byte("message"), Tag: api.Tag{5}}}
	for i, c := range d.calls {
		a.Boxes = append(a.Boxes, api.Sealed{Key: c.key, Nonce: c.nonce, Plain: []byte(c.plain), Box: d.box(i)})
	}
	return a
}

// filled returns an algebra with n boxes, which contain their indices in two bytes.
func filled(free bool, n int) (described, api.Algebra) {
	d := described{free: free}
	for i := range n {
		d.calls = append(d.calls, call{api.Tag{9}, i, string([]byte{byte(i >> 8), byte(i)})})
	}
	return d, d.algebra()
}

func sameMac(x, y api.Mac) bool {
	return x.Key == y.Key && bytes.Equal(x.Message, y.Message) && x.Tag == y.Tag
}

func sameSealed(x, y api.Sealed) bool {
	return x.Key == y.Key && x.Nonce == y.Nonce && bytes.Equal(x.Plain, y.Plain) && bytes.Equal(x.Box, y.Box)
}

// same reports whether two algebras are equal in all fields; nil and empty slices are.
func same(a, b api.Algebra) bool {
	return a.Free == b.Free && a.Seed == b.Seed && a.Fresh == b.Fresh &&
		slices.EqualFunc(a.Macs, b.Macs, sameMac) && slices.EqualFunc(a.Boxes, b.Boxes, sameSealed)
}

// copied returns an algebra that shares no memory with a.
func copied(a api.Algebra) api.Algebra {
	a.Macs, a.Boxes = slices.Clone(a.Macs), slices.Clone(a.Boxes)
	for i, m := range a.Macs {
		a.Macs[i].Message = bytes.Clone(m.Message)
	}
	for i, s := range a.Boxes {
		a.Boxes[i].Plain, a.Boxes[i].Box = bytes.Clone(s.Plain), bytes.Clone(s.Box)
	}
	return a
}

// mustSeal returns what follows a with a box, and the box.
func mustSeal(t *testing.T, a api.Algebra, c call) (api.Algebra, []byte) {
	t.Helper()
	b, sealed, e := box.Seal(a, c.key, c.nonce, []byte(c.plain))
	if e != api.OK {
		t.Fatalf("Seal of %q with the nonce %d: %d", c.plain, c.nonce, e)
	}
	return b, sealed
}

// checkOpen compares Open with what is described.
func checkOpen(t *testing.T, d described, a api.Algebra, key api.Tag, b []byte) {
	t.Helper()
	want, wantErr := d.open(key, b)
	if plain, e := box.Open(a, key, b); !bytes.Equal(plain, want) || e != wantErr {
		t.Errorf("free %v: Open of %x under %x is %x, %d, want %x, %d", d.free, b, key, plain, e, want, wantErr)
	}
}
