package chain_test

import (
	"bytes"
	stdhmac "crypto/hmac"
	"crypto/sha256"
	"encoding/binary"
	"slices"

	"macaroon/api"
	"macaroon/caveat"
)

// call is the key and the message of a tag.
type call struct {
	key     api.Tag
	message string
}

// described is an algebra as the chapters describe it: which tags were made, in order. With the functions below it is the second statement of the promises that the tests compare with; it computes tags with the standard library.
type described struct {
	free  bool
	calls []call
}

// symbol returns the free tag with the number n.
func symbol(n int) api.Tag {
	b := binary.BigEndian.AppendUint64([]byte("symbolm"), uint64(n))
	return api.Tag(append(b, make([]byte, 17)...))
}

// computed returns the tag of a message under a key, as the standard library computes it.
func computed(key api.Tag, message string) api.Tag {
	h := stdhmac.New(sha256.New, key[:])
	h.Write([]byte(message))
	return api.Tag(h.Sum(nil))
}

// tag returns the tag of the entry with the index i.
func (d described) tag(i int) api.Tag {
	if d.free {
		return symbol(i + 1)
	}
	return computed(d.calls[i].key, d.calls[i].message)
}

// with returns d with the entry of a message, if it has none yet, and the tag.
func (d described) with(key api.Tag, message string) (described, api.Tag) {
	i := slices.Index(d.calls, call{key, message})
	if i < 0 {
		i = len(d.calls)
		d.calls = append(slices.Clone(d.calls), call{key, message})
	}
	return d, d.tag(i)
}

// found returns the tag of a message, if it has one.
func (d described) found(key api.Tag, message string) (api.Tag, bool) {
	if !d.free {
		return computed(key, message), true
	}
	i := slices.Index(d.calls, call{key, message})
	if i < 0 {
		return api.Tag{}, false
	}
	return d.tag(i), true
}

// mintMessage and caveatMessage return the messages of P13.1.
func mintMessage(serial int) string {
	return string(binary.AppendUvarint([]byte("mint"), uint64(serial)))
}

func caveatMessage(c api.Caveat) string {
	b, _ := caveat.Encode(c)
	return "caveat" + string(b)
}

// withNode returns d with the entries of a node, and the tag of the node.
func (d described) withNode(key api.Tag, message string) (described, api.Tag, api.Errno) {
	d, tag := d.with(key, message)
	d, _ = d.with(tag, "node")
	if len(d.calls) > 65536 {
		return described{}, api.Tag{}, api.ErrLimit
	}
	return d, tag, api.OK
}

// isRange reports whether P13.2 has the error ErrRange.
func isRange(epoch, serial int) bool {
	return epoch <= 0 || epoch > 1000 || serial <= 0 || serial > 1073741824
}

// mint returns what P13.2 says of Mint.
func (d described) mint(root api.Epoch, serial int) (described, api.Pass, api.Errno) {
	if isRange(root.Number, serial) {
		return described{}, api.Pass{}, api.ErrRange
	}
	after, tag, e := d.withNode(root.Key, mintMessage(serial))
	if e != api.OK {
		return described{}, api.Pass{}, e
	}
	return after, api.Pass{Epoch: root.Number, Serial: serial, Tag: tag}, api.OK
}

// attenuate returns what P13.2 says of Attenuate.
func (d described) attenuate(p api.Pass, c api.Caveat) (described, api.Pass, api.Errno) {
	if !caveat.Valid(c) {
		return described{}, api.Pass{}, api.ErrForm
	}
	thirds := slices.DeleteFunc(slices.Clone(p.Caveats), func(c api.Caveat) bool { return !c.Third })
	if len(p.Caveats) >= 64 || c.Third && len(thirds) >= 8 {
		return described{}, api.Pass{}, api.ErrLimit
	}
	after, tag, e := d.withNode(p.Tag, caveatMessage(c))
	if e != api.OK {
		return described{}, api.Pass{}, e
	}
	return after, api.Pass{Epoch: p.Epoch, Serial: p.Serial, Caveats: append(slices.Clone(p.Caveats), c), Tag: tag}, api.OK
}

// tags returns what P13.3 says of Tags.
func (d described) tags(root api.Epoch, serial int, l []api.Caveat) ([]api.Tag, api.Errno) {
	if isRange(root.Number, serial) {
		return nil, api.ErrRange
	}
	for _, c := range l {
		if !caveat.Valid(c) {
			return nil, api.ErrForm
		}
	}
	tag, ok := d.found(root.Key, mintMessage(serial))
	tags := []api.Tag{tag}
	for i := 0; ok && i < len(l); i++ {
		tag, ok = d.found(tag, caveatMessage(l[i]))
		tags = append(tags, tag)
	}
	if !ok {
		return nil, api.ErrTag
	}
	return tags, api.OK
}

// nodes returns what P13.3 says of Nodes.
func (d described) nodes(tags []api.Tag) ([]api.Tag, api.Errno) {
	var ids []api.Tag
	for _, tag := range tags {
		id, ok := d.found(tag, "node")
		if !ok {
			return nil, api.ErrTag
		}
		ids = append(ids, id)
	}
	return ids, api.OK
}

// algebra returns d as the value that the packages have for it, with a box and fresh keys that are nothing to passes.
func (d described) algebra() api.Algebra {
	a := api.Algebra{Free: d.free, Seed: api.Tag{3}, Fresh: 7}
	a.Boxes = []api.Sealed{{Key: api.Tag{4}, Nonce: 5, Plain: []byte("plain"), Box: []byte("box")}}
	for i, c := range d.calls {
		a.Macs = append(a.Macs, api.Mac{Key: c.key, Message: []byte(c.message), Tag: d.tag(i)})
	}
	return a
}

func sameMac(x, y api.Mac) bool {
	return x.Key == y.Key && bytes.Equal(x.Message, y.Message) && x.Tag == y.Tag
}

func sameSealed(x, y api.Sealed) bool {
	return x.Key == y.Key && x.Nonce == y.Nonce && bytes.Equal(x.Plain, y.Plain) && bytes.Equal(x.Box, y.Box)
}

// same reports whether two algebras are equal in all fields; nil and empty slices are.
func same(a, b api.Algebra) bool {
	return a.Free == b.Free && a.Seed == b.Seed && a.Fresh == b.Fresh &&
		slices.EqualFunc(a.Macs, b.Macs, sameMac) && slices.EqualFunc(a.Boxes, b.Boxes, sameSealed)
}

// samePass reports whether two passes are equal in all fields.
func samePass(p, q api.Pass) bool {
	return p.Epoch == q.Epoch && p.Serial == q.Serial && p.Tag == q.Tag && caveat.Same(p.Caveats, q.Caveats)
}

// copied returns an algebra that shares no memory with a.
func copied(a api.Algebra) api.Algebra {
	a.Macs, a.Boxes = slices.Clone(a.Macs), slices.Clone(a.Boxes)
	for i, m := range a.Macs {
		a.Macs[i].Message = bytes.Clone(m.Message)
	}
	for i, s := range a.Boxes {
		a.Boxes[i].Plain, a.Boxes[i].Box = bytes.Clone(s.Plain), bytes.Clone(s.Box)
	}
	return a
}

// copiedCaveats returns a list that shares no memory with l.
func copiedCaveats(l []api.Caveat) []api.Caveat {
	l = slices.Clone(l)
	for i, c := range l {
		l[i].Ticket, l[i].Box = bytes.Clone(c.Ticket), bytes.Clone(c.Box)
	}
	return l
}
