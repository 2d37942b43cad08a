package caveat_test

import (
	"bytes"
	"encoding/binary"
	"math"
	"slices"
	"testing"

	"macaroon/api"
	"macaroon/caveat"
	"macaroon/field"
	"macaroon/predicate"
	"macaroon/varint"
)

// described reports whether c is valid as P12.1 says.
func described(c api.Caveat) bool {
	if !c.Third {
		return predicate.Valid(c.First) && c.Party == 0 && len(c.Ticket)+len(c.Box) == 0
	}
	return c.First.Kind == 0 && c.First.Mask == 0 && c.First.From == 0 && c.First.To == 0 && c.First.Name == "" && c.First.Number == 0 &&
		slices.Contains([]int{0, 1, 2, 3, 4, 5, 6, 7}, c.Party) &&
		len(c.Ticket) != 0 && !(len(c.Ticket) > 1024) && len(c.Box) != 0 && !(len(c.Box) > 1024)
}

// describedBytes returns what P12.2 says of the bytes of c.
func describedBytes(c api.Caveat) ([]byte, api.Errno) {
	if !described(c) {
		return nil, api.ErrForm
	}
	if c.Third {
		return thirdBytes(uint64(c.Party), c.Ticket, c.Box), api.OK
	}
	first, _ := predicate.Encode(c.First)
	return append([]byte{1}, first...), api.OK
}

// thirdBytes returns the bytes of a third-party caveat, which may be invalid.
func thirdBytes(party uint64, ticket, box []byte) []byte {
	b := binary.AppendUvarint([]byte{2}, party)
	b = append(binary.AppendUvarint(b, uint64(len(ticket))), ticket...)
	return append(binary.AppendUvarint(b, uint64(len(box))), box...)
}

// describedDecode returns what P12.2 says of the caveat at the beginning of b.
func describedDecode(b []byte) (api.Caveat, int, api.Errno) {
	none := api.Caveat{}
	kind, used, e := varint.Read(b)
	if e != api.OK {
		return none, 0, e
	}
	if kind == 1 {
		p, size, e := predicate.Decode(b[used:])
		if e != api.OK {
			return none, 0, e
		}
		return api.Caveat{First: p}, used + size, api.OK
	}
	if kind != 2 {
		return none, 0, api.ErrKind
	}
	party, size, e := varint.Read(b[used:])
	if e != api.OK {
		return none, 0, e
	}
	used += size
	var fields [2][]byte
	for i := range fields {
		x, size, e := field.Read(b[used:])
		if e != api.OK {
			return none, 0, e
		}
		fields[i] = x
		used += size
	}
	c := api.Caveat{Third: true, Party: party, Ticket: fields[0], Box: fields[1]}
	if !described(c) {
		return none, 0, api.ErrForm
	}
	return c, used, api.OK
}

// same reports whether two caveats are equal in all fields; nil and empty slices are.
func same(a, b api.Caveat) bool {
	return a.Third == b.Third && a.First == b.First && a.Party == b.Party && string(a.Ticket) == string(b.Ticket) && string(a.Box) == string(b.Box)
}

// copied returns a list that shares no memory with l.
func copied(l []api.Caveat) []api.Caveat {
	l = slices.Clone(l)
	for i, c := range l {
		l[i].Ticket, l[i].Box = bytes.Clone(c.Ticket), bytes.Clone(c.Box)
	}
	return l
}

// sample returns n bytes that differ from their neighbours.
func sample(n int) []byte {
	b := make([]byte, n)
	for i := range b {
		b[i] = byte(i*7 + i/256 + 1)
	}
	return b
}

func first(p api.Predicate) api.Caveat {
	return api.Caveat{First: p}
}

func third(party int, ticket, box []byte) api.Caveat {
	return api.Caveat{Third: true, Party: party, Ticket: ticket, Box: box}
}

// predicates returns valid predicates of each kind, at their limits and inside.
func predicates() []api.Predicate {
	return []api.Predicate{
		{Kind: api.PredZone, Mask: 1}, {Kind: api.PredZone, Mask: math.MaxUint64},
		{Kind: api.PredLine, Mask: 8}, {Kind: api.PredLine, Mask: math.MaxUint32},
		{Kind: api.PredDays, Mask: 127},
		{Kind: api.PredTime}, {Kind: api.PredTime, From: 100, To: 200}, {Kind: api.PredTime, From: api.MaxMinute, To: api.MaxMinute},
		{Kind: api.PredDaily, From: 1380, To: 300},
		{Kind: api.PredHolder, Name: "a"}, {Kind: api.PredHolder, Name: "abcdefghijklmnop"},
		{Kind: api.PredRides}, {Kind: api.PredRides, Number: 5}, {Kind: api.PredRides, Number: api.MaxRides},
	}
}

// wrongPredicates returns predicates that are not valid, the zero predicate among them.
func wrongPredicates() []api.Predicate {
	return []api.Predicate{
		{}, {Kind: api.PredZone}, {Kind: api.PredTime, From: 2, To: 1}, {Kind: api.PredHolder}, {Kind: api.PredRides, Number: -1}, {Kind: 8}, {Kind: -1},
		{Mask: 1}, {From: 1}, {To: 1}, {Name: "a"}, {Number: 1}, {Kind: api.PredRides, Number: 5, Mask: 1},
	}
}

// candidates returns caveats with all combinations of fields inside and outside their limits.
func candidates() []api.Caveat {
	var l []api.Caveat
	parts := [][]byte{nil, {}, {0}, sample(2), sample(127), sample(128), sample(1023), sample(1024), sample(1025), sample(1152), sample(1<<16 + 1)}
	for _, isThird := range []bool{false, true} {
		for _, p := range append(predicates(), wrongPredicates()...) {
			for _, party := range []int{math.MinInt, -8, -1, 0, 1, 6, 7, 8, 15, 256, 1 << 32, 1<<48 + 1, math.MaxInt} {
				for _, ticket := range parts {
					for _, box := range parts {
						l = append(l, api.Caveat{Third: isThird, First: p, Party: party, Ticket: ticket, Box: box})
					}
				}
			}
		}
	}
	return l
}

// check checks what Valid and Encode say of c. Like the other checks it ends the test at the first wrong result, since most mistakes make very many of them wrong.
func check(t *testing.T, c api.Caveat) {
	t.Helper()
	if ok := caveat.Valid(c); ok != described(c) {
		t.Fatalf("Valid(%.60v) = %t", c, ok)
	}
	b, e := caveat.Encode(c)
	if want, wantE := describedBytes(c); !bytes.Equal(b, want) || e != wantE {
		t.Fatalf("Encode(%.60v) = %.60v, %d, want %.60v, %d", c, b, e, want, wantE)
	}
}

func checkDecode(t *testing.T, b []byte) {
	t.Helper()
	c, used, e := caveat.Decode(b)
	if want, wantUsed, wantE := describedDecode(b); !same(c, want) || used != wantUsed || e != wantE {
		t.Fatalf("Decode(%.60v) = %.60v, %d, %d, want %.60v, %d, %d", b, c, used, e, want, wantUsed, wantE)
	}
}

// eachString calls f for every string of size bytes that are among the given ones.
func eachString(size int, among []byte, f func(b []byte)) {
	b := make([]byte, size)
	var extend func(i int)
	extend = func(i int) {
		if i == size {
			f(b)
			return
		}
		for _, x := range among {
			b[i] = x
			extend(i + 1)
		}
	}
	extend(0)
}

// eachChange calls f for b, with each byte left out, with each one replaced and with one inserted at each place, from among the given ones.
func eachChange(b []byte, among []byte, f func(b []byte)) {
	f(b)
	for i := range len(b) + 1 {
		for _, x := range among {
			f(slices.Insert(bytes.Clone(b), i, x))
			if i < len(b) {
				f(slices.Replace(bytes.Clone(b), i, i+1, x))
			}
		}
		if i < len(b) {
			f(slices.Delete(bytes.Clone(b), i, i+1))
		}
	}
}

func allBytes() []byte {
	var l []byte
	for x := range 256 {
		l = append(l, byte(x))
	}
	return l
}
