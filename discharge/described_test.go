package discharge_test

import (
	"bytes"
	stdhmac "crypto/hmac"
	"crypto/sha256"
	"encoding/binary"
	"regexp"
	"slices"
	"strings"

	"macaroon/api"
	"macaroon/predicate"
	"macaroon/ticket"
)

// The functions of this file are the second statement of the promises that the tests compare with; they compute tags with the standard library, and leave only tickets and the encodings of predicates to the lower layers.

// symbol returns the free tag of a kind with the number n.
func symbol(kind string, n int) api.Tag {
	number := binary.BigEndian.AppendUint64(nil, uint64(n))
	return api.Tag([]byte("symbol" + kind + string(number) + strings.Repeat("\x00", 17)))
}

// computed returns the tag of a message under a key, as the standard library computes it.
func computed(key api.Tag, message string) api.Tag {
	h := stdhmac.New(sha256.New, key[:])
	h.Write([]byte(message))
	return api.Tag(h.Sum(nil))
}

// entry returns the tag of the entry with this key and this message.
func entry(a api.Algebra, key api.Tag, message string) (api.Tag, bool) {
	for _, m := range a.Macs {
		if m.Key == key && string(m.Message) == message {
			return m.Tag, true
		}
	}
	return api.Tag{}, false
}

// made returns a with the tags of these messages, each under the tag before it and the first one under key, and the last tag.
func made(a api.Algebra, key api.Tag, messages ...string) (api.Algebra, api.Tag, api.Errno) {
	for _, message := range messages {
		if len(message) > 4096 {
			return api.Algebra{}, api.Tag{}, api.ErrLimit
		}
		tag, ok := entry(a, key, message)
		if !ok && len(a.Macs) >= 65536 {
			return api.Algebra{}, api.Tag{}, api.ErrLimit
		}
		if !ok {
			tag = symbol("m", len(a.Macs)+1)
			if !a.Free {
				tag = computed(key, message)
			}
			a.Macs = append(slices.Clone(a.Macs), api.Mac{Key: key, Message: []byte(message), Tag: tag})
		}
		key = tag
	}
	return a, key, api.OK
}

// found returns the last one of these tags, without making one.
func found(a api.Algebra, key api.Tag, messages ...string) (api.Tag, bool) {
	for _, message := range messages {
		tag, ok := entry(a, key, message)
		if !a.Free {
			tag, ok = computed(key, message), len(message) <= 4096
		}
		if !ok {
			return api.Tag{}, false
		}
		key = tag
	}
	return key, true
}

// ageOf returns what P15.1 says of Age, by counting the birthdays.
func ageOf(p api.Person, minute int) int {
	const last = 67108864
	age := 0
	if minute >= 0 && minute <= last && p.Born >= -last && p.Born <= last {
		for birthday := p.Born + 525600; birthday <= minute && age < 150; birthday += 525600 {
			age++
		}
	}
	return age
}

// person returns what P15.1 says of Find.
func person(c api.Concession, name string) (api.Person, bool) {
	i := slices.IndexFunc(c.Persons, func(p api.Person) bool { return p.Name == name })
	if i < 0 {
		return api.Person{}, false
	}
	return c.Persons[i], true
}

// names matches names.
var names = regexp.MustCompile(`\A[a-z]{1,16}\z`)

// grant returns what P15.2 says of Grant.
func grant(a api.Algebra, c api.Concession, t []byte, holder string, minute int) (api.Algebra, api.Discharge, api.Errno) {
	fail := func(e api.Errno) (api.Algebra, api.Discharge, api.Errno) { return api.Algebra{}, api.Discharge{}, e }
	key, terms, ticketErr := ticket.Open(a, c, t)
	p, known := person(c, holder)
	age := ageOf(p, minute)
	switch {
	case !names.MatchString(holder):
		return fail(api.ErrName)
	case minute < 0 || minute > 67108864:
		return fail(api.ErrRange)
	case ticketErr != api.OK:
		return fail(ticketErr)
	case !known:
		return fail(api.ErrUnknown)
	case age < terms.Least || age > terms.Most:
		return fail(api.ErrRefused)
	}
	a, tag, e := made(a, key, "grant"+string(t), "condition\x06"+string([]byte{byte(len(holder))})+holder)
	if e != api.OK {
		return fail(e)
	}
	return a, api.Discharge{Ticket: t, Conditions: []api.Predicate{{Kind: 6, Name: holder}}, Tag: tag}, api.OK
}

// condition returns the message of the tag of a condition, if p may be one.
func condition(p api.Predicate) (string, api.Errno) {
	b, _ := predicate.Encode(p)
	if !predicate.Valid(p) {
		return "", api.ErrForm
	}
	if p.Kind == 7 {
		return "", api.ErrKind
	}
	return "condition" + string(b), api.OK
}

// restrict returns what P15.2 says of Restrict.
func restrict(a api.Algebra, d api.Discharge, p api.Predicate) (api.Algebra, api.Discharge, api.Errno) {
	message, e := condition(p)
	if e == api.OK && len(d.Conditions) >= 8 {
		e = api.ErrLimit
	}
	if e == api.OK {
		a, d.Tag, e = made(a, d.Tag, message)
	}
	if e != api.OK {
		return api.Algebra{}, api.Discharge{}, e
	}
	d.Conditions = append(slices.Clone(d.Conditions), p)
	return a, d, api.OK
}

// binding returns the message of a proof, if there may be such a request.
func binding(leaf api.Tag, r api.Request) (string, bool) {
	b := append([]byte("bind"), leaf[:]...)
	b = binary.AppendUvarint(b, uint64(r.Gate))
	b = binary.AppendUvarint(b, uint64(r.Nonce))
	return string(b), 0 <= r.Gate && r.Gate < 8 && 0 < r.Nonce && r.Nonce <= 1<<48
}

// bind returns what P15.3 says of Bind.
func bind(a api.Algebra, d api.Discharge, leaf api.Tag, r api.Request) (api.Algebra, api.Bound, api.Errno) {
	message, ok := binding(leaf, r)
	if !ok {
		return api.Algebra{}, api.Bound{}, api.ErrRange
	}
	a, proof, e := made(a, d.Tag, message)
	if e != api.OK {
		return api.Algebra{}, api.Bound{}, e
	}
	return a, api.Bound{Ticket: d.Ticket, Conditions: d.Conditions, Proof: proof}, api.OK
}

// tagOf returns what P15.4 says of Tag.
func tagOf(a api.Algebra, key api.Tag, t []byte, l []api.Predicate) (api.Tag, bool) {
	messages := []string{"grant" + string(t)}
	for _, p := range l {
		message, e := condition(p)
		if e != api.OK {
			return api.Tag{}, false
		}
		messages = append(messages, message)
	}
	return found(a, key, messages...)
}

// proofOf returns what P15.4 says of Proof.
func proofOf(a api.Algebra, tag, leaf api.Tag, r api.Request) (api.Tag, bool) {
	message, ok := binding(leaf, r)
	if !ok {
		return api.Tag{}, false
	}
	return found(a, tag, message)
}

func sameMac(x, y api.Mac) bool {
	return x.Key == y.Key && bytes.Equal(x.Message, y.Message) && x.Tag == y.Tag
}

func sameSealed(x, y api.Sealed) bool {
	return x.Key == y.Key && x.Nonce == y.Nonce && bytes.Equal(x.Plain, y.Plain) && bytes.Equal(x.Box, y.Box)
}

// same reports whether two algebras are equal in all fields; nil and empty slices are.
func same(a, b api.Algebra) bool {
	return a.Free == b.Free && a.Seed == b.Seed && a.Fresh == b.Fresh &&
		slices.EqualFunc(a.Macs, b.Macs, sameMac) && slices.EqualFunc(a.Boxes, b.Boxes, sameSealed)
}

// sameDischarge reports whether two discharges are equal in all fields.
func sameDischarge(d, x api.Discharge) bool {
	return bytes.Equal(d.Ticket, x.Ticket) && slices.Equal(d.Conditions, x.Conditions) && d.Tag == x.Tag
}

// sameBound reports whether two bound discharges are equal in all fields.
func sameBound(d, x api.Bound) bool {
	return bytes.Equal(d.Ticket, x.Ticket) && slices.Equal(d.Conditions, x.Conditions) && d.Proof == x.Proof
}

// copied returns an algebra that shares no memory with a.
func copied(a api.Algebra) api.Algebra {
	a.Macs, a.Boxes = slices.Clone(a.Macs), slices.Clone(a.Boxes)
	for i, m := range a.Macs {
		a.Macs[i].Message = bytes.Clone(m.Message)
	}
	for i, s := range a.Boxes {
		a.Boxes[i].Plain, a.Boxes[i].Box = bytes.Clone(s.Plain), bytes.Clone(s.Box)
	}
	return a
}

// copiedDischarge returns a discharge that shares no memory with d.
func copiedDischarge(d api.Discharge) api.Discharge {
	d.Ticket, d.Conditions = bytes.Clone(d.Ticket), slices.Clone(d.Conditions)
	return d
}
