package ticket_test

import (
	"bytes"
	stdhmac "crypto/hmac"
	"crypto/sha256"
	"encoding/binary"
	"slices"
	"strings"

	"macaroon/api"
	"macaroon/caveat"
)

// call is the key and the message of a tag.
type call struct {
	key     api.Tag
	message string
}

// sealing is what a box is made of.
type sealing struct {
	key   api.Tag
	nonce int
	plain string
}

// described is an algebra as the chapters describe it: which keys, tags and boxes were made, in order. With the functions below it is the second statement of the promises that the tests compare with; it computes tags with the standard library.
type described struct {
	free     bool
	seed     api.Tag
	fresh    int
	calls    []call
	sealings []sealing
}

// eight returns n as eight bytes, the most significant one first.
func eight(n int) string {
	return string(binary.BigEndian.AppendUint64(nil, uint64(n)))
}

// symbol returns the free tag of a kind with the number n.
func symbol(kind string, n int) api.Tag {
	return api.Tag([]byte("symbol" + kind + eight(n) + strings.Repeat("\x00", 17)))
}

// computed returns the tag of a message under a key, as the standard library computes it.
func computed(key api.Tag, message string) api.Tag {
	h := stdhmac.New(sha256.New, key[:])
	h.Write([]byte(message))
	return api.Tag(h.Sum(nil))
}

// word returns the bytes of a tag.
func word(t api.Tag) string { return string(t[:]) }

// streamed returns the bytes of b, combined with the key stream of a computed box.
func streamed(key api.Tag, nonce, b string) string {
	var stream []byte
	for k := 0; len(stream) < len(b); k++ {
		stream = append(stream, word(computed(key, "stream"+nonce+eight(k)))...)
	}
	c := []byte(b)
	for i := range c {
		c[i] ^= stream[i]
	}
	return string(c)
}

// computedBox returns the box of a computed algebra.
func computedBox(s sealing) string {
	sealed := eight(s.nonce) + streamed(s.key, eight(s.nonce), s.plain)
	return sealed + word(computed(s.key, "box"+sealed))
}

// symbolBox returns the box of the entry with the number n of a free algebra.
func symbolBox(n, size int) string {
	return word(symbol("b", n)) + strings.Repeat("\x00", size+8)
}

// tag returns the tag of the entry with the index i.
func (d described) tag(i int) api.Tag {
	if d.free {
		return symbol("m", i+1)
	}
	return computed(d.calls[i].key, d.calls[i].message)
}

// box returns the box of the entry with the index i.
func (d described) box(i int) string {
	if d.free {
		return symbolBox(i+1, len(d.sealings[i].plain))
	}
	return computedBox(d.sealings[i])
}

// key returns d with a further fresh key.
func (d described) key() (described, api.Tag, api.Errno) {
	if d.fresh >= 65536 {
		return described{}, api.Tag{}, api.ErrLimit
	}
	d.fresh++
	if d.free {
		return d, symbol("k", d.fresh), api.OK
	}
	if d.fresh < 0 {
		return described{}, api.Tag{}, api.ErrRange
	}
	return d, computed(d.seed, "fresh\x00"+eight(d.fresh)), api.OK
}

// mac returns d with the entry of a message, if it has none yet, and the tag.
func (d described) mac(key api.Tag, message string) (described, api.Tag, api.Errno) {
	if len(message) > 4096 {
		return described{}, api.Tag{}, api.ErrLimit
	}
	i := slices.Index(d.calls, call{key, message})
	if i < 0 {
		i = len(d.calls)
		d.calls = append(slices.Clone(d.calls), call{key, message})
	}
	if len(d.calls) > 65536 {
		return described{}, api.Tag{}, api.ErrLimit
	}
	return d, d.tag(i), api.OK
}

// seal returns d with a box, if it has none yet, and the box.
func (d described) seal(s sealing) (described, string, api.Errno) {
	if s.nonce < 0 || s.nonce > 1<<48 {
		return described{}, "", api.ErrRange
	}
	i := slices.Index(d.sealings, s)
	if i < 0 {
		i = len(d.sealings)
		d.sealings = append(slices.Clone(d.sealings), s)
	}
	if len(s.plain) > 256 || len(d.sealings) > 65536 {
		return described{}, "", api.ErrLimit
	}
	return d, d.box(i), api.OK
}

// open returns what is sealed in a box.
func (d described) open(key api.Tag, b string) (string, api.Errno) {
	if !d.free {
		if len(b) < 40 || len(b) > 296 || word(computed(key, "box"+b[:len(b)-32])) != b[len(b)-32:] {
			return "", api.ErrSeal
		}
		return streamed(key, b[:8], b[8:len(b)-32]), api.OK
	}
	for i, s := range d.sealings {
		if s.key == key && d.box(i) == b {
			return s.plain, api.OK
		}
	}
	return "", api.ErrSeal
}

// attenuate returns what P13.2 says of Attenuate.
func (d described) attenuate(p api.Pass, c api.Caveat) (described, api.Pass, api.Errno) {
	b, e := caveat.Encode(c)
	if e != api.OK {
		return described{}, api.Pass{}, api.ErrForm
	}
	thirds := slices.DeleteFunc(slices.Clone(p.Caveats), func(c api.Caveat) bool { return !c.Third })
	if len(p.Caveats) >= 64 || c.Third && len(thirds) >= 8 {
		return described{}, api.Pass{}, api.ErrLimit
	}
	d, tag, e := d.mac(p.Tag, "caveat"+string(b))
	if e == api.OK {
		d, _, e = d.mac(tag, "node")
	}
	if e != api.OK {
		return described{}, api.Pass{}, e
	}
	return d, api.Pass{Epoch: p.Epoch, Serial: p.Serial, Caveats: append(slices.Clone(p.Caveats), c), Tag: tag}, api.OK
}

// isTerms reports whether P14.1 calls terms valid.
func isTerms(least, most int) bool {
	return least >= 0 && most >= least && most < 151
}

// contents returns the bytes that are sealed in a ticket.
func contents(key api.Tag, least, most int) string {
	return word(key) + endOf(least, most)
}

// endOf returns what stands behind the key in a ticket.
func endOf(least, most int) string {
	return string(binary.AppendUvarint(binary.AppendUvarint(nil, uint64(least)), uint64(most)))
}

// ends has all that may stand behind the key in a ticket.
var ends = func() map[string]api.Terms {
	m := map[string]api.Terms{}
	for most := range 151 {
		for least := range most + 1 {
			m[endOf(least, most)] = api.Terms{Least: least, Most: most}
		}
	}
	return m
}()

// blank returns what P14.1 says of Blank.
func (d described) blank(c api.Concession, t api.Terms) (described, api.Blank, api.Errno) {
	if !isTerms(t.Least, t.Most) || c.Party < 0 || c.Party >= 8 {
		return described{}, api.Blank{}, api.ErrRange
	}
	d, key, e := d.key()
	if e != api.OK {
		return described{}, api.Blank{}, e
	}
	d, sealed, e := d.seal(sealing{c.Key, d.fresh, contents(key, t.Least, t.Most)})
	if e != api.OK {
		return described{}, api.Blank{}, e
	}
	return d, api.Blank{Party: c.Party, Key: key, Ticket: []byte(sealed)}, api.OK
}

// openTicket returns what P14.2 says of Open.
func (d described) openTicket(c api.Concession, ticket string) (api.Tag, api.Terms, api.Errno) {
	plain, e := d.open(c.Key, ticket)
	if e != api.OK {
		return api.Tag{}, api.Terms{}, e
	}
	if len(plain) < 32 {
		return api.Tag{}, api.Terms{}, api.ErrForm
	}
	t, ok := ends[plain[32:]]
	if !ok {
		return api.Tag{}, api.Terms{}, api.ErrForm
	}
	return api.Tag([]byte(plain[:32])), t, api.OK
}

// add returns what P14.3 says of Add.
func (d described) add(p api.Pass, b api.Blank) (described, api.Pass, api.Errno) {
	d, key, e := d.mac(p.Tag, "seal"+string(b.Ticket))
	if e != api.OK {
		return described{}, api.Pass{}, e
	}
	d, sealed, e := d.seal(sealing{key, 0, word(b.Key)})
	if e != api.OK {
		return described{}, api.Pass{}, e
	}
	return d.attenuate(p, api.Caveat{Third: true, Party: b.Party, Ticket: b.Ticket, Box: []byte(sealed)})
}

// algebra returns d as the value that the packages have for it.
func (d described) algebra() api.Algebra {
	a := api.Algebra{Free: d.free, Seed: d.seed, Fresh: d.fresh}
	for i, c := range d.calls {
		a.Macs = append(a.Macs, api.Mac{Key: c.key, Message: []byte(c.message), Tag: d.tag(i)})
	}
	for i, s := range d.sealings {
		a.Boxes = append(a.Boxes, api.Sealed{Key: s.key, Nonce: s.nonce, Plain: []byte(s.plain), Box: []byte(d.box(i))})
	}
	return a
}

func sameMac(x, y api.Mac) bool {
	return x.Key == y.Key && bytes.Equal(x.Message, y.Message) && x.Tag == y.Tag
}

func sameSealed(x, y api.Sealed) bool {
	return x.Key == y.Key && x.Nonce == y.Nonce && bytes.Equal(x.Plain, y.Plain) && bytes.Equal(x.Box, y.Box)
}

// same reports whether two algebras are equal in all fields; nil and empty slices are.
func same(a, b api.Algebra) bool {
	return a.Free == b.Free && a.Seed == b.Seed && a.Fresh == b.Fresh &&
		slices.EqualFunc(a.Macs, b.Macs, sameMac) && slices.EqualFunc(a.Boxes, b.Boxes, sameSealed)
}

// samePass reports whether two passes are equal in all fields.
func samePass(p, q api.Pass) bool {
	return p.Epoch == q.Epoch && p.Serial == q.Serial && p.Tag == q.Tag && caveat.Same(p.Caveats, q.Caveats)
}

// sameBlank reports whether two empty tickets are equal in all fields.
func sameBlank(b, c api.Blank) bool {
	return b.Party == c.Party && b.Key == c.Key && bytes.Equal(b.Ticket, c.Ticket)
}

// copied returns an algebra that shares no memory with a.
func copied(a api.Algebra) api.Algebra {
	a.Macs, a.Boxes = slices.Clone(a.Macs), slices.Clone(a.Boxes)
	for i, m := range a.Macs {
		a.Macs[i].Message = bytes.Clone(m.Message)
	}
	for i, s := range a.Boxes {
		a.Boxes[i].Plain, a.Boxes[i].Box = bytes.Clone(s.Plain), bytes.Clone(s.Box)
	}
	return a
}

// copiedPass returns a pass that shares no memory with p.
func copiedPass(p api.Pass) api.Pass {
	p.Caveats = slices.Clone(p.Caveats)
	for i, c := range p.Caveats {
		p.Caveats[i].Ticket, p.Caveats[i].Box = bytes.Clone(c.Ticket), bytes.Clone(c.Box)
	}
	return p
}
