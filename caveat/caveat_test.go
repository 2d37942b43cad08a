package caveat_test

import (
	"bytes"
	"math/rand/v2"
	"slices"
	"sync"
	"testing"

	"macaroon/api"
	"macaroon/caveat"
)

// P12.1, P12.2: caveats that are written out with their bytes, the document's example among them.
func TestWrittenCaveats(t *testing.T) {
	for _, x := range []struct {
		c     api.Caveat
		bytes []byte
	}{
		{first(api.Predicate{Kind: api.PredRides, Number: 5}), []byte{1, 7, 5}},
		{first(api.Predicate{Kind: api.PredZone, Mask: 6}), []byte{1, 1, 0, 0, 0, 0, 0, 0, 0, 6}},
		{first(api.Predicate{Kind: api.PredDaily, From: 1380, To: 300}), []byte{1, 5, 228, 10, 172, 2}},
		{first(api.Predicate{Kind: api.PredHolder, Name: "bob"}), []byte{1, 6, 3, 98, 111, 98}},
		{third(0, []byte("t"), []byte("b")), []byte{2, 0, 1, 116, 1, 98}},
		{third(7, []byte{0}, []byte{1, 2, 3}), []byte{2, 7, 1, 0, 3, 1, 2, 3}},
		{third(3, sample(1024), sample(200)), slices.Concat([]byte{2, 3, 128, 8}, sample(1024), []byte{200, 1}, sample(200))},
		{third(1, []byte{2}, sample(1024)), slices.Concat([]byte{2, 1, 1, 2, 128, 8}, sample(1024))},
	} {
		if !caveat.Valid(x.c) {
			t.Errorf("%.40v is not valid", x.c)
		}
		if b, e := caveat.Encode(x.c); !bytes.Equal(b, x.bytes) || e != api.OK {
			t.Errorf("Encode(%.40v) = %.40v, %d, want %.40v", x.c, b, e, x.bytes)
		}
		for _, behind := range [][]byte{nil, {0}, {1}, {1, 7, 6}, {255, 255}, sample(3000)} {
			c, used, e := caveat.Decode(slices.Concat(x.bytes, behind))
			if !same(c, x.c) || used != len(x.bytes) || e != api.OK {
				t.Errorf("Decode(%.40v) = %.40v, %d, %d", x.bytes, c, used, e)
			}
		}
	}
}

// P12.1, P12.2: all combinations of fields inside and outside their limits.
func TestCandidates(t *testing.T) {
	for _, c := range candidates() {
		check(t, c)
	}
}

// P12.1, P12.2: caveats that are not valid, each with what is wrong with it.
func TestCaveatsThatAreNotValid(t *testing.T) {
	rides := api.Predicate{Kind: api.PredRides, Number: 5}
	one := []byte{1}
	for what, c := range map[string]api.Caveat{
		"the zero caveat":                         {},
		"a predicate that is not valid":           {First: api.Predicate{Kind: api.PredRides, Number: -1}},
		"a predicate with a field of another one": {First: api.Predicate{Kind: api.PredRides, Mask: 1}},
		"a predicate with a party":                {First: rides, Party: 1},
		"a predicate with a negative party":       {First: rides, Party: -1},
		"a predicate with a ticket":               {First: rides, Ticket: one},
		"a predicate with a box":                  {First: rides, Box: one},
		"a predicate with a ticket and a box":     {First: rides, Ticket: one, Box: one},
		"all fields":                              {Third: true, First: rides, Party: 1, Ticket: one, Box: one},
		"the fields of a third-party caveat":      {Party: 1, Ticket: one, Box: one},
		"a third-party caveat with a kind":        {Third: true, First: api.Predicate{Kind: 1}, Ticket: one, Box: one},
		"a third-party caveat with a mask":        {Third: true, First: api.Predicate{Mask: 1}, Ticket: one, Box: one},
		"a third-party caveat with a minute":      {Third: true, First: api.Predicate{To: 1}, Ticket: one, Box: one},
		"a third-party caveat with a name":        {Third: true, First: api.Predicate{Name: "a"}, Ticket: one, Box: one},
		"a third-party caveat with a number":      {Third: true, First: api.Predicate{Number: 1}, Ticket: one, Box: one},
		"a party too low":                         {Third: true, Party: -1, Ticket: one, Box: one},
		"a party too high":                        {Third: true, Party: 8, Ticket: one, Box: one},
		"no ticket and no box":                    {Third: true},
		"no ticket":                               {Third: true, Box: one},
		"an empty ticket":                         {Third: true, Ticket: []byte{}, Box: one},
		"no box":                                  {Third: true, Ticket: one},
		"an empty box":                            {Third: true, Ticket: one, Box: []byte{}},
		"a ticket too long":                       {Third: true, Ticket: sample(1025), Box: one},
		"a box too long":                          {Third: true, Ticket: one, Box: sample(1025)},
	} {
		if caveat.Valid(c) {
			t.Errorf("%s: valid", what)
		}
		if b, e := caveat.Encode(c); len(b) != 0 || e != api.ErrForm {
			t.Errorf("%s: Encode = %v, %d", what, b, e)
		}
	}
}

// P12.1: empty byte strings and nil are the same to Valid and Encode.
func TestEmptyIsNil(t *testing.T) {
	c := first(api.Predicate{Kind: api.PredRides, Number: 5})
	c.Ticket, c.Box = []byte{}, []byte{}
	if b, e := caveat.Encode(c); !caveat.Valid(c) || !bytes.Equal(b, []byte{1, 7, 5}) || e != api.OK {
		t.Errorf("Valid = %t, Encode = %v, %d", caveat.Valid(c), b, e)
	}
}

// P12.1: the predicates of lists of caveats, valid ones and others, in their order.
func TestFirsts(t *testing.T) {
	elements := []api.Caveat{
		first(api.Predicate{Kind: api.PredRides, Number: 5}),
		first(api.Predicate{Kind: api.PredHolder, Name: "ann"}),
		{},
		{First: api.Predicate{Kind: 99, From: -1}, Party: 5, Ticket: []byte{1}},
		third(0, []byte{1}, []byte{2}),
		{Third: true, First: api.Predicate{Kind: api.PredRides, Number: 6}},
	}
	var extend func(l []api.Caveat, want []api.Predicate)
	extend = func(l []api.Caveat, want []api.Predicate) {
		if got := caveat.Firsts(l); !slices.Equal(got, want) {
			t.Errorf("Firsts(%v) = %v, want %v", l, got, want)
		}
		for i := 0; i < len(elements) && len(l) < 4; i++ {
			if i < 4 {
				extend(append(l, elements[i]), append(want, elements[i].First))
			} else {
				extend(append(l, elements[i]), want)
			}
		}
	}
	extend(nil, nil)
	var many []api.Caveat
	for n := range 1000 {
		many = append(many, first(api.Predicate{Kind: api.PredRides, Number: n}), third(n, nil, nil))
	}
	got := caveat.Firsts(many)
	for n := range 1000 {
		if len(got) != 1000 || got[n] != (api.Predicate{Kind: api.PredRides, Number: n}) {
			t.Fatalf("of 2000 caveats, %d predicates; wrong at %d", len(got), n)
		}
	}
}

// different returns caveats that all differ from one another in at least one field; many of them are not valid.
func different() []api.Caveat {
	l := []api.Caveat{
		{}, {Third: true}, {Party: 1}, {Party: -1}, {Ticket: []byte{1}}, {Box: []byte{1}}, {Ticket: []byte{1}, Box: []byte{1}},
		{Ticket: []byte{0}}, {Ticket: []byte{0, 0}}, {Ticket: []byte{1, 0}}, {Box: []byte{0}}, {Box: []byte{0, 0}}, {Box: []byte{1, 0}},
		third(1, []byte{1, 2}, []byte{3}), third(2, []byte{1, 2}, []byte{3}), third(1, []byte{1}, []byte{2, 3}), third(1, []byte{1, 2}, []byte{4}),
		third(1, []byte{1, 3}, []byte{3}), third(1, []byte{2, 2}, []byte{3}), third(1, []byte{3}, []byte{1, 2}), third(1<<32+1, []byte{1, 2}, []byte{3}),
		third(0, sample(1024), sample(1024)), third(0, sample(1025), sample(1024)), third(0, sample(1024), sample(1023)),
	}
	for _, p := range slices.Concat(predicates(), wrongPredicates()[1:]) {
		l = append(l, first(p), api.Caveat{Third: true, First: p})
	}
	return l
}

// P12.1: two lists are the same exactly if all fields of all their elements are.
func TestSame(t *testing.T) {
	elements := different()
	for i, a := range elements {
		for j, b := range copied(elements) {
			for k, x := range []struct {
				a, b []api.Caveat
				want bool
			}{
				{[]api.Caveat{a}, []api.Caveat{b}, i == j},
				{[]api.Caveat{a, b}, []api.Caveat{a, b}, true},
				{[]api.Caveat{a, b}, []api.Caveat{b, a}, i == j},
				{[]api.Caveat{a, a}, []api.Caveat{a, b}, i == j},
				{[]api.Caveat{a, a}, []api.Caveat{b, a}, i == j},
				{[]api.Caveat{a, b}, []api.Caveat{a}, false},
				{[]api.Caveat{a}, []api.Caveat{a, b}, false},
				{nil, []api.Caveat{a}, false},
				{[]api.Caveat{a, a, b}, []api.Caveat{a, a, a}, i == j},
			} {
				if caveat.Same(x.a, x.b) != x.want {
					t.Fatalf("case %d: Same(%.40v, %.40v) = %t", k, x.a, x.b, !x.want)
				}
			}
		}
	}
}

// P12.1: nil and empty lists and byte strings are equal.
func TestSameOfEmptyOnes(t *testing.T) {
	lists := [][]api.Caveat{nil, {}}
	var caveats []api.Caveat
	for _, ticket := range [][]byte{nil, {}} {
		for _, box := range [][]byte{nil, {}} {
			caveats = append(caveats, api.Caveat{Party: 3, Ticket: ticket, Box: box})
		}
	}
	for _, a := range lists {
		for _, b := range lists {
			if !caveat.Same(a, b) {
				t.Error("empty lists are not the same")
			}
		}
	}
	for _, a := range caveats {
		for _, b := range caveats {
			if !caveat.Same([]api.Caveat{a}, []api.Caveat{b}) {
				t.Errorf("%#v and %#v are not the same", a, b)
			}
		}
	}
}

// P12.2: each error of Decode, and of two errors the one that is read first.
func TestErrorsOfDecode(t *testing.T) {
	tooGreat := []byte{129, 128, 128, 128, 128, 128, 64}
	for _, x := range []struct {
		name string
		b    []byte
		want api.Errno
	}{
		{"no bytes", nil, api.ErrShort},
		{"a first number that is cut off", []byte{129}, api.ErrShort},
		{"a first number that is not canonical", []byte{129, 0, 7, 5}, api.ErrForm},
		{"a first number that is too great", tooGreat, api.ErrRange},
		{"the first number 0", []byte{0}, api.ErrKind},
		{"the first number 0 before a predicate", []byte{0, 7, 5}, api.ErrKind},
		{"the first number 3", []byte{3}, api.ErrKind},
		{"the first number 3 before a wrong number", []byte{3, 128, 0}, api.ErrKind},
		{"the first number 257", []byte{129, 2, 7, 5}, api.ErrKind},
		{"the first number 2^32 + 2", []byte{130, 128, 128, 128, 16, 0, 1, 1, 1, 1}, api.ErrKind},
		{"no predicate", []byte{1}, api.ErrShort},
		{"a predicate of the kind 0", []byte{1, 0}, api.ErrKind},
		{"a predicate of the kind 8", []byte{1, 8, 1}, api.ErrKind},
		{"a predicate that is cut off", []byte{1, 1, 0, 0, 0, 0, 0, 0, 0}, api.ErrShort},
		{"a predicate that is not valid", []byte{1, 5, 160, 11, 0}, api.ErrForm},
		{"a predicate with a number that is not canonical", []byte{1, 7, 133, 0}, api.ErrForm},
		{"a predicate with a number that is too great", append([]byte{1, 7}, tooGreat...), api.ErrRange},
		{"a predicate with a name that is too long for a field", []byte{1, 6, 129, 8}, api.ErrLimit},
		{"no party", []byte{2}, api.ErrShort},
		{"a party that is cut off", []byte{2, 128}, api.ErrShort},
		{"a party that is not canonical", []byte{2, 129, 0, 129, 8}, api.ErrForm},
		{"a party that is too great for a number", append([]byte{2}, tooGreat...), api.ErrRange},
		{"a party that is too great for a number, and a wrong ticket", slices.Concat([]byte{2}, tooGreat, []byte{129, 8}), api.ErrRange},
		{"the party 8", []byte{2, 8, 1, 1, 1, 1}, api.ErrForm},
		{"the party 2^32", []byte{2, 128, 128, 128, 128, 16, 1, 1, 1, 1}, api.ErrForm},
		{"the party 8, and no ticket", []byte{2, 8}, api.ErrShort},
		{"the party 8, and a ticket that is too long", []byte{2, 8, 129, 8}, api.ErrLimit},
		{"the party 8, and a box that is too long", []byte{2, 8, 1, 1, 129, 8}, api.ErrLimit},
		{"no ticket", []byte{2, 0}, api.ErrShort},
		{"a ticket that is cut off", []byte{2, 0, 2, 1}, api.ErrShort},
		{"a ticket that is too long", append([]byte{2, 0, 129, 8}, sample(1100)...), api.ErrLimit},
		{"a ticket with a length that is not canonical", []byte{2, 0, 129, 0, 1, 1, 1}, api.ErrForm},
		{"a ticket with a length that is too great", slices.Concat([]byte{2, 0}, tooGreat, []byte{1}), api.ErrRange},
		{"an empty ticket", []byte{2, 0, 0, 1, 1}, api.ErrForm},
		{"an empty ticket, and no box", []byte{2, 0, 0}, api.ErrShort},
		{"an empty ticket, and a box that is too long", []byte{2, 0, 0, 129, 8}, api.ErrLimit},
		{"no box", []byte{2, 0, 1, 1}, api.ErrShort},
		{"a box that is cut off", []byte{2, 0, 1, 1, 3, 1, 1}, api.ErrShort},
		{"a box that is too long", append([]byte{2, 0, 1, 1, 129, 8}, sample(1100)...), api.ErrLimit},
		{"a box with a length that is not canonical", []byte{2, 0, 1, 1, 129, 0, 1}, api.ErrForm},
		{"a box with a length that is too great", slices.Concat([]byte{2, 0, 1, 1}, tooGreat), api.ErrRange},
		{"an empty box", []byte{2, 0, 1, 1, 0}, api.ErrForm},
		{"an empty box before further bytes", []byte{2, 0, 1, 1, 0, 1, 1}, api.ErrForm},
		{"an empty ticket and an empty box", []byte{2, 0, 0, 0}, api.ErrForm},
	} {
		if c, used, e := caveat.Decode(x.b); !same(c, api.Caveat{}) || used != 0 || e != x.want {
			t.Errorf("Decode of %s = %v, %d, %d, want %d", x.name, c, used, e, x.want)
		}
	}
}

// P12.2: what is read from all strings of up to two bytes, from those of three bytes that begin as caveats do, and from longer strings of bytes at which something changes.
func TestDecodeOfAllStrings(t *testing.T) {
	check := func(b []byte) { checkDecode(t, b) }
	for size := range 3 {
		eachString(size, allBytes(), check)
		eachString(size, allBytes(), func(b []byte) {
			checkDecode(t, append([]byte{1}, b...))
			checkDecode(t, append([]byte{2}, b...))
		})
	}
	for size := range 8 {
		eachString(size, []byte{0, 1, 2, 6, 7, 8, 128}, check)
	}
}

// P12.2: what is read from the bytes of caveats with one byte changed, and from those that are cut off.
func TestDecodeOfChangedBytes(t *testing.T) {
	caveats := []api.Caveat{third(0, sample(1), sample(1)), third(7, sample(5), sample(130)), third(4, sample(130), sample(3))}
	for _, p := range predicates() {
		caveats = append(caveats, first(p))
	}
	for _, c := range caveats {
		b, _ := describedBytes(c)
		eachChange(b, allBytes(), func(b []byte) { checkDecode(t, b) })
		for size := range len(b) {
			if c, used, e := caveat.Decode(b[:size]); !same(c, api.Caveat{}) || used != 0 || e != api.ErrShort {
				t.Errorf("Decode of %d bytes of %v = %v, %d, %d", size, b, c, used, e)
			}
		}
	}
}

// P12.2: every number as the party and as the lengths of the fields, around their limits.
func TestDecodeOfNumbers(t *testing.T) {
	numbers := []uint64{0, 1, 6, 7, 8, 9, 127, 128, 255, 256, 1 << 32, 1 << 48, 1<<48 + 1}
	sizes := []int{0, 1, 2, 127, 128, 1023, 1024, 1025, 1026}
	for _, party := range numbers {
		for _, n := range sizes {
			for _, m := range sizes {
				checkDecode(t, thirdBytes(party, sample(n), sample(m)))
				checkDecode(t, append(thirdBytes(party, sample(n), sample(m)), 0))
			}
		}
	}
}

// P12.3: each caveat is read from its bytes, and different caveats have different bytes, of which none begins those of another one.
func TestCaveatsDetermineBytes(t *testing.T) {
	seen := map[string]bool{}
	valid := slices.DeleteFunc(append(candidates(), different()...), func(c api.Caveat) bool { return !described(c) })
	var all []string
	for _, c := range valid {
		b, e := caveat.Encode(c)
		again, used, f := caveat.Decode(b)
		if e != api.OK || f != api.OK || !caveat.Same([]api.Caveat{again}, []api.Caveat{c}) || used != len(b) {
			t.Fatalf("%.60v is encoded as %.60v, %d, and read as %.60v, %d, %d", c, b, e, again, used, f)
		}
		if !seen[string(b)] {
			all = append(all, string(b))
		}
		seen[string(b)] = true
	}
	slices.Sort(all)
	for i := 1; i < len(all); i++ {
		if len(all[i]) >= len(all[i-1]) && all[i][:len(all[i-1])] == all[i-1] {
			t.Fatalf("%.60q begins %.60q", all[i-1], all[i])
		}
	}
	if len(all) < 14+4*36 {
		t.Errorf("%d encodings", len(all))
	}
}

// P12.3: whatever is read as a caveat is just the bytes of this caveat.
func TestBytesDetermineCaveats(t *testing.T) {
	read := 0
	check := func(b []byte) {
		c, used, e := caveat.Decode(b)
		if e != api.OK {
			return
		}
		read++
		if again, e := caveat.Encode(c); !bytes.Equal(again, b[:used]) || e != api.OK || !caveat.Valid(c) {
			t.Fatalf("%.60v is read as %.60v, which is encoded as %.60v, %d", b, c, again, e)
		}
	}
	for size := range 3 {
		eachString(size, allBytes(), func(b []byte) { check(append([]byte{1, 7}, b...)) })
	}
	for size := range 8 {
		eachString(size, []byte{0, 1, 2, 3, 7, 97, 128}, check)
	}
	lot := rand.New(rand.NewPCG(12, 3))
	for range 20000 {
		b := thirdBytes(uint64(lot.IntN(9)), sample(lot.IntN(5)), sample(lot.IntN(300)))
		b[lot.IntN(min(len(b), 10))] = byte(lot.IntN(256))
		check(b)
	}
	if read < 10000 {
		t.Errorf("only %d caveats were read", read)
	}
}

// R3: no function modifies its arguments, and no result shares memory with them or with another result.
func TestSharedMemory(t *testing.T) {
	l := []api.Caveat{first(api.Predicate{Kind: api.PredHolder, Name: "ann"}), third(3, sample(20), sample(30)), first(api.Predicate{Kind: api.PredRides, Number: 5})}
	kept := copied(l)
	for i, c := range l {
		b, _ := caveat.Encode(c)
		other, _ := caveat.Encode(c)
		keptBytes := bytes.Clone(other)
		clear(b[:cap(b)])
		if !bytes.Equal(other, keptBytes) {
			t.Errorf("two encodings of the caveat %d share memory", i)
		}
		x, _, _ := caveat.Decode(other)
		y, _, _ := caveat.Decode(other)
		if !bytes.Equal(other, keptBytes) {
			t.Errorf("the bytes of the caveat %d were modified", i)
		}
		clear(other)
		clear(x.Ticket[:cap(x.Ticket)])
		if !bytes.Equal(x.Box, kept[i].Box) {
			t.Errorf("ticket and box of the caveat %d share memory", i)
		}
		clear(x.Box[:cap(x.Box)])
		if !same(y, kept[i]) {
			t.Errorf("the caveat %d was read as %v", i, y)
		}
	}
	firsts := caveat.Firsts(l)
	others := caveat.Firsts(l)
	clear(firsts[:cap(firsts)])
	if !slices.Equal(others, []api.Predicate{kept[0].First, kept[2].First}) {
		t.Errorf("the predicates became %v", others)
	}
	if !caveat.Same(l, kept) || !slices.EqualFunc(l, kept, same) {
		t.Errorf("the list became %v", l)
	}
}

// R3, R4: calls that run at the same time do not disturb each other.
func TestCallsAtTheSameTime(t *testing.T) {
	c := third(3, sample(200), sample(300))
	want, _ := describedBytes(c)
	var all sync.WaitGroup
	for range 8 {
		all.Go(func() {
			for range 200 {
				b, e := caveat.Encode(c)
				again, used, f := caveat.Decode(want)
				if !bytes.Equal(b, want) || e != api.OK || !same(again, c) || used != len(want) || f != api.OK {
					t.Errorf("Encode = %.40v, %d; Decode = %.40v, %d, %d", b, e, again, used, f)
					return
				}
			}
		})
	}
	all.Wait()
}
