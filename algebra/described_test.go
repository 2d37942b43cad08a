package algebra_test

import (
	"bytes"
	stdhmac "crypto/hmac"
	"crypto/sha256"
	"encoding/binary"
	"slices"
	"testing"

	"macaroon/algebra"
	"macaroon/api"
)

// call is the key and the message of a tag.
type call struct {
	key     api.Tag
	message string
}

// described is an algebra as the chapter describes it: which entries were made, in order, and what for. It is the second statement of the promises that the tests compare with, and it computes tags with the standard library.
type described struct {
	free  bool
	seed  api.Tag
	fresh int
	calls []call
}

// symbol returns the tag that P10.1 calls Symbol(kind, n).
func symbol(kind byte, n int) api.Tag {
	b := binary.BigEndian.AppendUint64(append([]byte("symbol"), kind), uint64(n))
	return api.Tag(append(b, make([]byte, 17)...))
}

// computed returns the tag of a message under a key, as the standard library computes it.
func computed(key api.Tag, message string) api.Tag {
	h := stdhmac.New(sha256.New, key[:])
	h.Write([]byte(message))
	return api.Tag(h.Sum(nil))
}

// tag returns the tag of the entry with the index i.
func (d described) tag(i int) api.Tag {
	if d.free {
		return symbol('m', i+1)
	}
	return computed(d.calls[i].key, d.calls[i].message)
}

// key returns what follows d, and the fresh key.
func (d described) key() (described, api.Tag, api.Errno) {
	if d.fresh == 65536 {
		return described{}, api.Tag{}, api.ErrLimit
	}
	d.fresh++
	if d.free {
		return d, symbol('k', d.fresh), api.OK
	}
	n := binary.BigEndian.AppendUint64(nil, uint64(d.fresh))
	return d, computed(d.seed, "fresh\x00"+string(n)), api.OK
}

// mac returns what follows d, and the tag of the message.
func (d described) mac(key api.Tag, message string) (described, api.Tag, api.Errno) {
	if len(message) > 4096 {
		return described{}, api.Tag{}, api.ErrLimit
	}
	i := slices.Index(d.calls, call{key, message})
	if i < 0 {
		i = len(d.calls)
		d.calls = append(slices.Clone(d.calls), call{key, message})
	}
	if len(d.calls) > 65536 {
		return described{}, api.Tag{}, api.ErrLimit
	}
	return d, d.tag(i), api.OK
}

// look returns the tag of the message, if it has one.
func (d described) look(key api.Tag, message string) (api.Tag, bool) {
	i := slices.Index(d.calls, call{key, message})
	switch {
	case len(message) > 4096:
		return api.Tag{}, false
	case !d.free:
		return computed(key, message), true
	case i < 0:
		return api.Tag{}, false
	}
	return d.tag(i), true
}

// algebra returns d as the value that the package has for it.
func (d described) algebra() api.Algebra {
	a := api.Algebra{Free: d.free, Seed: d.seed, Fresh: d.fresh}
	for i, c := range d.calls {
		a.Macs = append(a.Macs, api.Mac{Key: c.key, Message: []byte(c.message), Tag: d.tag(i)})
	}
	return a
}

func sameMac(x, y api.Mac) bool {
	return x.Key == y.Key && bytes.Equal(x.Message, y.Message) && x.Tag == y.Tag
}

func sameSealed(x, y api.Sealed) bool {
	return x.Key == y.Key && x.Nonce == y.Nonce && bytes.Equal(x.Plain, y.Plain) && bytes.Equal(x.Box, y.Box)
}

// same reports whether two algebras are equal in all fields; nil and empty slices are.
func same(a, b api.Algebra) bool {
	return a.Free == b.Free && a.Seed == b.Seed && a.Fresh == b.Fresh &&
		slices.EqualFunc(a.Macs, b.Macs, sameMac) && slices.EqualFunc(a.Boxes, b.Boxes, sameSealed)
}

// copied returns an algebra that shares no memory with a.
func copied(a api.Algebra) api.Algebra {
	a.Macs, a.Boxes = slices.Clone(a.Macs), slices.Clone(a.Boxes)
	for i, m := range a.Macs {
		a.Macs[i].Message = bytes.Clone(m.Message)
	}
	for i, s := range a.Boxes {
		a.Boxes[i].Plain, a.Boxes[i].Box = bytes.Clone(s.Plain), bytes.Clone(s.Box)
	}
	return a
}

// mustKey returns what follows a with a fresh key, and the key.
func mustKey(t *testing.T, a api.Algebra) (api.Algebra, api.Tag) {
	t.Helper()
	b, key, e := algebra.Key(a)
	if e != api.OK {
		t.Fatalf("Key with Fresh %d: %d", a.Fresh, e)
	}
	return b, key
}

// mustMac returns what follows a with the tag of a message, and the tag.
func mustMac(t *testing.T, a api.Algebra, key api.Tag, message string) (api.Algebra, api.Tag) {
	t.Helper()
	b, tag, e := algebra.Mac(a, key, []byte(message))
	if e != api.OK {
		t.Fatalf("Mac of %.40q with %d entries: %d", message, len(a.Macs), e)
	}
	return b, tag
}
