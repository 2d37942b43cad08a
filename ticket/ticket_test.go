package ticket_test

import (
	"bytes"
	"encoding/hex"
	"math"
	"math/rand/v2"
	"slices"
	"strings"
	"sync"
	"testing"

	"macaroon/algebra"
	"macaroon/api"
	"macaroon/box"
	"macaroon/chain"
	"macaroon/ticket"
)

var (
	kinds  = []bool{false, true} // of algebras: computed, free
	root   = api.Epoch{Number: 3, Key: api.Tag{7}}
	office = api.Concession{Party: 2, Key: api.Tag{5}}
	old    = api.Terms{Least: 60, Most: 150}
	all    = api.Terms{Most: 150}
)

func first(p api.Predicate) api.Caveat { return api.Caveat{First: p} }

func rides(n int) api.Caveat { return first(api.Predicate{Kind: api.PredRides, Number: n}) }

func holder(name string) api.Caveat { return first(api.Predicate{Kind: api.PredHolder, Name: name}) }

func third(party int, ticket, box string) api.Caveat {
	return api.Caveat{Third: true, Party: party, Ticket: []byte(ticket), Box: []byte(box)}
}

// text returns n bytes that differ from their neighbours.
func text(n int) []byte {
	b := make([]byte, n)
	for i := range b {
		b[i] = byte(i*7 + i/256)
	}
	return b
}

// started returns an algebra with a few entries that are nothing to tickets.
func started(free bool) described {
	return described{
		free: free, seed: api.Tag{3}, fresh: 7,
		calls:    []call{{api.Tag{9}, "mint\x01"}, {api.Tag{9}, "node"}},
		sealings: []sealing{{api.Tag{8}, 5, "plain"}},
	}
}

// checkBlank compares Blank with what is described, and returns what follows.
func checkBlank(t *testing.T, d described, a api.Algebra, c api.Concession, terms api.Terms) (described, api.Algebra, api.Blank) {
	t.Helper()
	want, wantBlank, wantErr := d.blank(c, terms)
	b, blank, e := ticket.Blank(a, c, terms)
	if !same(b, following(want, wantErr)) || !sameBlank(blank, wantBlank) || e != wantErr {
		t.Fatalf("free %v: Blank of the party %d for %v: %v, %d boxes, %d, want %v, %d boxes, %d", d.free, c.Party, terms, blank, len(b.Boxes), e, wantBlank, len(want.sealings), wantErr)
	}
	return want, b, blank
}

// checkAdd compares Add with what is described, and returns what follows.
func checkAdd(t *testing.T, d described, a api.Algebra, p api.Pass, blank api.Blank) (described, api.Algebra, api.Pass) {
	t.Helper()
	want, wantPass, wantErr := d.add(p, blank)
	b, q, e := ticket.Add(a, p, blank)
	if !same(b, following(want, wantErr)) || !samePass(q, wantPass) || e != wantErr {
		t.Fatalf("free %v: Add of %.60v: %.90v, %d tags, %d boxes, %d, want %.90v, %d tags, %d boxes, %d", d.free, blank, q, len(b.Macs), len(b.Boxes), e, wantPass, len(want.calls), len(want.sealings), wantErr)
	}
	return want, b, q
}

// checkAttenuate compares chain.Attenuate with what is described, and returns what follows.
func checkAttenuate(t *testing.T, d described, a api.Algebra, p api.Pass, c api.Caveat) (described, api.Algebra, api.Pass) {
	t.Helper()
	want, wantPass, wantErr := d.attenuate(p, c)
	b, q, e := chain.Attenuate(a, p, c)
	if !same(b, following(want, wantErr)) || !samePass(q, wantPass) || e != wantErr {
		t.Fatalf("free %v: Attenuate: %.90v, %d, want %.90v, %d", d.free, q, e, wantPass, wantErr)
	}
	return want, b, q
}

func checkOpen(t *testing.T, d described, a api.Algebra, c api.Concession, x []byte) {
	t.Helper()
	wantKey, want, wantErr := d.openTicket(c, string(x))
	if key, terms, e := ticket.Open(a, c, x); key != wantKey || terms != want || e != wantErr {
		t.Fatalf("free %v: Open of %x under %x: %x, %v, %d, want %x, %v, %d", d.free, x, c.Key, key, terms, e, wantKey, want, wantErr)
	}
}

// following returns the algebra that is returned with an error code.
func following(d described, e api.Errno) api.Algebra {
	if e != api.OK {
		return api.Algebra{}
	}
	return d.algebra()
}

// mustBlank and mustAdd return what follows a.
func mustBlank(t *testing.T, a api.Algebra, c api.Concession, terms api.Terms) (api.Algebra, api.Blank) {
	t.Helper()
	b, blank, e := ticket.Blank(a, c, terms)
	if e != api.OK {
		t.Fatalf("Blank of the party %d for %v: %d", c.Party, terms, e)
	}
	return b, blank
}

func mustAdd(t *testing.T, a api.Algebra, p api.Pass, b api.Blank) (api.Algebra, api.Pass) {
	t.Helper()
	a, p, e := ticket.Add(a, p, b)
	if e != api.OK {
		t.Fatalf("Add of %v: %d", b, e)
	}
	return a, p
}

func mustMint(t *testing.T, a api.Algebra, serial int) (api.Algebra, api.Pass) {
	t.Helper()
	a, p, e := chain.Mint(a, root, serial)
	if e != api.OK {
		t.Fatalf("Mint of %d: %d", serial, e)
	}
	return a, p
}

// ages are inside and outside the range of ages.
var ages = []int{math.MinInt, math.MinInt32, -256, -150, -1, 0, 1, 2, 59, 60, 127, 128, 149, 150, 151, 152, 255, 256, 406, 1 << 32, 1<<32 + 60, 1<<48 + 1, math.MaxInt}

// P14.1: the terms that are valid.
func TestValid(t *testing.T) {
	for _, terms := range [][2]int{{0, 0}, {0, 1}, {1, 1}, {0, 150}, {60, 150}, {149, 150}, {150, 150}} {
		if !ticket.Valid(api.Terms{Least: terms[0], Most: terms[1]}) {
			t.Errorf("%v is not valid", terms)
		}
	}
	for _, terms := range [][2]int{{-1, 0}, {-1, -1}, {-2, -1}, {1, 0}, {150, 149}, {0, 151}, {151, 151}, {151, 150}, {60, 59}} {
		if ticket.Valid(api.Terms{Least: terms[0], Most: terms[1]}) {
			t.Errorf("%v is valid", terms)
		}
	}
	l := slices.Clone(ages)
	for n := -3; n < 154; n++ {
		l = append(l, n)
	}
	for _, least := range l {
		for _, most := range l {
			if got := ticket.Valid(api.Terms{Least: least, Most: most}); got != isTerms(least, most) {
				t.Errorf("Valid of the terms from %d to %d is %v", least, most, got)
			}
		}
	}
}

// P14.1 to P14.3: tickets and passes of a free algebra with all their entries written out.
func TestFreeTicketsWrittenOut(t *testing.T) {
	a, p := mustMint(t, algebra.New(true, api.Tag{1}), 300)
	a, b := mustBlank(t, a, office, old)
	a, c := mustBlank(t, a, api.Concession{Party: 7, Key: api.Tag{6}}, api.Terms{})
	a, again := mustBlank(t, a, office, old)
	a, q := mustAdd(t, a, p, b)
	a, r := mustAdd(t, a, q, c)
	a, twice := mustAdd(t, a, q, b)
	a, once := mustAdd(t, a, p, b)

	key := func(n int) string { return word(symbol("k", n)) }
	sealed := func(n, size int) string { return symbolBox(n, size) }
	node := func(party, first, second string) string {
		return "caveat\x02" + party + "\x4b" + first + "\x48" + second
	}
	want := api.Algebra{Free: true, Seed: api.Tag{1}, Fresh: 3}
	for i, s := range []sealing{
		{api.Tag{5}, 1, key(1) + "\x3c\x96\x01"}, {api.Tag{6}, 2, key(2) + "\x00\x00"}, {api.Tag{5}, 3, key(3) + "\x3c\x96\x01"},
		{symbol("m", 3), 0, key(1)}, {symbol("m", 6), 0, key(2)}, {symbol("m", 9), 0, key(1)},
	} {
		want.Boxes = append(want.Boxes, api.Sealed{Key: s.key, Nonce: s.nonce, Plain: []byte(s.plain), Box: []byte(sealed(i+1, len(s.plain)))})
	}
	for i, x := range []call{
		{root.Key, "mint\xac\x02"}, {symbol("m", 1), "node"},
		{symbol("m", 1), "seal" + sealed(1, 35)}, {symbol("m", 1), node("\x02", sealed(1, 35), sealed(4, 32))}, {symbol("m", 4), "node"},
		{symbol("m", 4), "seal" + sealed(2, 34)}, {symbol("m", 4), "caveat\x02\x07\x4a" + sealed(2, 34) + "\x48" + sealed(5, 32)}, {symbol("m", 7), "node"},
		{symbol("m", 4), "seal" + sealed(1, 35)}, {symbol("m", 4), node("\x02", sealed(1, 35), sealed(6, 32))}, {symbol("m", 10), "node"},
	} {
		want.Macs = append(want.Macs, api.Mac{Key: x.key, Message: []byte(x.message), Tag: symbol("m", i+1)})
	}
	if !same(a, want) {
		t.Errorf("the algebra is %v, want %v", a, want)
	}
	for i, x := range []struct{ got, want api.Blank }{
		{b, api.Blank{Party: 2, Key: symbol("k", 1), Ticket: []byte(sealed(1, 35))}},
		{c, api.Blank{Party: 7, Key: symbol("k", 2), Ticket: []byte(sealed(2, 34))}},
		{again, api.Blank{Party: 2, Key: symbol("k", 3), Ticket: []byte(sealed(3, 35))}},
	} {
		if !sameBlank(x.got, x.want) {
			t.Errorf("the ticket %d is %v, want %v", i, x.got, x.want)
		}
	}
	one, two := third(2, sealed(1, 35), sealed(4, 32)), third(7, sealed(2, 34), sealed(5, 32))
	for i, x := range []struct{ got, want api.Pass }{
		{q, api.Pass{Epoch: 3, Serial: 300, Caveats: []api.Caveat{one}, Tag: symbol("m", 4)}},
		{r, api.Pass{Epoch: 3, Serial: 300, Caveats: []api.Caveat{one, two}, Tag: symbol("m", 7)}},
		{twice, api.Pass{Epoch: 3, Serial: 300, Caveats: []api.Caveat{one, third(2, sealed(1, 35), sealed(6, 32))}, Tag: symbol("m", 10)}},
		{once, q},
	} {
		if !samePass(x.got, x.want) {
			t.Errorf("the pass %d is %v, want %v", i, x.got, x.want)
		}
	}
}

// P14.1 to P14.3: the second ticket of a computed algebra, and a pass with it, as another program has computed them. The ticket is opened in an algebra without entries.
func TestComputedTicketWrittenOut(t *testing.T) {
	a, p := mustMint(t, algebra.New(false, api.Tag{1}), 300)
	a, _ = mustBlank(t, a, office, all)
	a, b := mustBlank(t, a, office, old)
	a, q := mustAdd(t, a, p, b)
	if len(q.Caveats) != 1 || len(a.Macs) != 5 || len(a.Boxes) != 3 {
		t.Fatalf("the pass is %v, with %d tags and %d boxes", q, len(a.Macs), len(a.Boxes))
	}
	for what, x := range map[string]struct {
		got  []byte
		want string
	}{
		"key":    {b.Key[:], "d2a2aa67d82fd3b66f85b8b02418611e66d31aeeb7434f09892f779878eff456"},
		"ticket": {b.Ticket, "000000000000000251b4d09ba893d9966a646117c853df8220bb6aed26c2c7e68bbc45ff9cdeb12a6c1141ff986da5ffe45ac0788906a5aea3fccb021fa9414cdf4812db8fcfc696e67cac"},
		"seal":   {a.Macs[2].Tag[:], "0134196302d904afc8bbef14fa1a42632ce3a34b534dfe52302c3a3abb14d4b1"},
		"box":    {q.Caveats[0].Box, "00000000000000009f04b93805715b428cb1f188fed23e94df787438485d83dd8fdc5e7b913074375c8e73e51b8d2182c81db0c2d07e1bce71cc95509622bd568e08ac7bef2baf44"},
		"tag":    {q.Tag[:], "019a94ffd4b1967cd97807d525cd4cb97b4204461759b71e25758d24e2df9f92"},
		"id":     {a.Macs[4].Tag[:], "4e48e43b39193979dd928b88965f6953621e39ac4dac825427d0524f507398a1"},
	} {
		if hex.EncodeToString(x.got) != x.want {
			t.Errorf("the %s is %x, want %s", what, x.got, x.want)
		}
	}
	if !bytes.Equal(q.Caveats[0].Ticket, b.Ticket) || !q.Caveats[0].Third || q.Caveats[0].Party != 2 || b.Party != 2 {
		t.Errorf("the caveat is %v", q.Caveats[0])
	}
	if key, terms, e := ticket.Open(algebra.New(false, api.Tag{}), office, b.Ticket); key != b.Key || terms != old || e != api.OK {
		t.Errorf("Open: %x, %v, %d", key, terms, e)
	}
}

// P14.1, P14.2: all valid terms, of all authorities: what Blank seals, Open returns.
func TestAllTerms(t *testing.T) {
	for _, free := range kinds {
		d := started(free)
		a := d.algebra()
		for least := range 151 {
			for most := least; most < 151; most++ {
				c := api.Concession{Party: (least + most) % 8, Key: api.Tag{byte(least), byte(most)}}
				after, b, blank := checkBlank(t, d, a, c, api.Terms{Least: least, Most: most})
				checkOpen(t, after, b, c, blank.Ticket)
				key, terms, e := ticket.Open(b, c, blank.Ticket)
				if key != blank.Key || terms != (api.Terms{Least: least, Most: most}) || e != api.OK {
					t.Fatalf("free %v: the ticket for the terms from %d to %d is opened as %x, %v, %d", free, least, most, key, terms, e)
				}
			}
		}
	}
}

// P14.1: the nonce of a ticket is the number of its fresh key.
func TestNoncesOfTickets(t *testing.T) {
	for _, free := range kinds {
		for _, fresh := range []int{0, 1, 2, 254, 255, 256, 65534, 65535} {
			d := started(free)
			d.fresh = fresh
			_, b, blank := checkBlank(t, d, d.algebra(), office, old)
			if s := b.Boxes[1]; b.Fresh != fresh+1 || s.Nonce != fresh+1 || s.Key != office.Key || !bytes.Equal(s.Box, blank.Ticket) {
				t.Errorf("free %v: the box behind %d keys is %v", free, fresh, s)
			}
			if !free && string(blank.Ticket[:8]) != eight(fresh+1) {
				t.Errorf("the ticket behind %d keys is %x", fresh, blank.Ticket)
			}
		}
	}
}

// P14.1: ErrRange of all pairs of ages and of all parties, before the other errors.
func TestRangesOfBlank(t *testing.T) {
	for _, free := range kinds {
		d := started(free)
		a := d.algebra()
		used := a
		used.Fresh = api.MaxEntries
		full := a
		full.Boxes = make([]api.Sealed, api.MaxEntries)
		for _, party := range []int{math.MinInt, -8, -1, 0, 1, 6, 7, 8, 9, 15, 256, 1 << 32, math.MaxInt} {
			for _, least := range ages {
				for _, most := range ages {
					c, terms := api.Concession{Party: party, Key: api.Tag{5}}, api.Terms{Least: least, Most: most}
					checkBlank(t, d, a, c, terms)
					want := api.ErrLimit
					if party < 0 || party > 7 || !isTerms(least, most) {
						want = api.ErrRange
					}
					for _, x := range []api.Algebra{used, full} {
						if b, blank, e := ticket.Blank(x, c, terms); !same(b, api.Algebra{}) || !sameBlank(blank, api.Blank{}) || e != want {
							t.Fatalf("free %v: Blank of the party %d for %v: %v, %d, want %d", free, party, terms, blank, e, want)
						}
					}
				}
			}
		}
	}
}

// P14.1: ErrLimit if there is no room for a further key or a further box; a box that is there already needs none, and tags are nothing to tickets.
func TestFullAlgebrasOfBlank(t *testing.T) {
	for _, free := range kinds {
		for _, fresh := range []int{0, 65534, 65535, 65536, 65537, math.MaxInt} {
			for size := api.MaxEntries - 1; size <= api.MaxEntries+1; size++ {
				for _, existing := range []bool{false, true} {
					d := described{free: free, seed: api.Tag{3}, fresh: fresh}
					want, _, e := d.blank(office, old)
					a := d.algebra()
					a.Macs, a.Boxes = make([]api.Mac, api.MaxEntries+1), make([]api.Sealed, size)
					entries := size + 1
					if existing && e == api.OK {
						a.Boxes[100] = want.algebra().Boxes[0]
						entries = size
					}
					if !existing && entries > api.MaxEntries {
						e = api.ErrLimit
					}
					b, blank, got := ticket.Blank(a, office, old)
					if got != e || e == api.OK && (len(b.Boxes) != entries || b.Fresh != fresh+1 || len(b.Macs) != len(a.Macs) || len(blank.Ticket) != 75) {
						t.Errorf("free %v: Blank behind %d keys and %d boxes: %v, %d, %d boxes, want %d", free, fresh, size, blank, got, len(b.Boxes), e)
					}
					if e != api.OK && (!same(b, api.Algebra{}) || !sameBlank(blank, api.Blank{})) {
						t.Errorf("free %v: Blank behind %d keys and %d boxes returns something with the error", free, fresh, size)
					}
					if existing && e == api.OK && !bytes.Equal(blank.Ticket, a.Boxes[100].Box) {
						t.Errorf("free %v: the ticket is %x, want %x", free, blank.Ticket, a.Boxes[100].Box)
					}
				}
			}
		}
	}
}

// P14.1: algebras that no function returns: the errors of algebra.Key and box.Seal.
func TestNegativeFresh(t *testing.T) {
	for _, free := range kinds {
		for _, fresh := range []int{math.MinInt, -1 << 48, -3, -2, -1} {
			d := started(free)
			d.fresh = fresh
			_, _, blank := checkBlank(t, d, d.algebra(), office, old)
			if (len(blank.Ticket) > 0) != (fresh == -1) {
				t.Errorf("free %v: the ticket behind %d keys is %v", free, fresh, blank)
			}
		}
	}
}

// P14.1, P14.2: the persons that an authority knows are nothing to its tickets, and its number is nothing to Open.
func TestFieldsOfAuthorities(t *testing.T) {
	for _, free := range kinds {
		d := started(free)
		a := d.algebra()
		known := office
		known.Persons = []api.Person{{Name: "ann", Born: -5}, {Name: "Not a name"}, {Name: "ann", Born: math.MaxInt}}
		d, a, blank := checkBlank(t, d, a, known, old)
		if _, other := mustBlank(t, started(free).algebra(), office, old); !sameBlank(blank, other) {
			t.Errorf("free %v: %v, want %v", free, blank, other)
		}
		for _, party := range []int{math.MinInt, -1, 0, 2, 8, math.MaxInt} {
			c := api.Concession{Party: party, Key: office.Key, Persons: known.Persons}
			checkOpen(t, d, a, c, blank.Ticket)
			if key, terms, e := ticket.Open(a, c, blank.Ticket); key != blank.Key || terms != old || e != api.OK {
				t.Errorf("free %v: the party %d opens the ticket as %x, %v, %d", free, party, key, terms, e)
			}
		}
	}
}

// checkContents checks Open of a box with these contents, which need not be those of a ticket, in both kinds of algebras.
func checkContents(t *testing.T, plain string) {
	t.Helper()
	s := sealing{office.Key, 4, plain}
	d := described{free: true, sealings: []sealing{s}}
	checkOpen(t, d, d.algebra(), office, []byte(d.box(0)))
	checkOpen(t, described{}, api.Algebra{}, office, []byte(computedBox(s)))
}

// P14.2: contents of all lengths, and all that may stand behind a key in up to two bytes.
func TestContents(t *testing.T) {
	for n := range 257 {
		checkContents(t, string(text(n)))
		checkContents(t, strings.Repeat("\x00", n))
		checkContents(t, strings.Repeat("\x80", n))
		checkContents(t, strings.Repeat("\x7f", n))
	}
	key := string(text(32))
	for x := range 256 {
		checkContents(t, key+string([]byte{byte(x)}))
		for y := range 256 {
			checkContents(t, key+string([]byte{byte(x), byte(y)}))
			checkContents(t, key[1:]+string([]byte{byte(x), byte(y)}))
		}
	}
}

// P14.2: edge bytes behind a key, up to six of them.
func TestEdgesOfContents(t *testing.T) {
	key := string(text(32))
	var extend func(end string)
	extend = func(end string) {
		checkContents(t, key+end)
		for _, x := range []byte{0, 1, 2, 0x16, 0x17, 0x7f, 0x80, 0x96, 0x97, 0xff} {
			if len(end) < 4 || len(end) < 6 && strings.IndexByte("\x00\x01\x80\x96", x) >= 0 {
				extend(end + string([]byte{x}))
			}
		}
	}
	extend("")
}

// P14.2: the terms of a ticket, written out, right and wrong.
func TestOpenWrittenOut(t *testing.T) {
	key := string(text(32))
	for _, x := range []struct {
		what, plain string
		terms       api.Terms
		e           api.Errno
	}{
		{"both 0", key + "\x00\x00", api.Terms{}, api.OK},
		{"different terms", key + "\x12\x63", api.Terms{Least: 18, Most: 99}, api.OK},
		{"the widest terms", key + "\x00\x96\x01", api.Terms{Most: 150}, api.OK},
		{"the highest terms", key + "\x96\x01\x96\x01", api.Terms{Least: 150, Most: 150}, api.OK},
		{"one byte and two bytes", key + "\x7f\x80\x01", api.Terms{Least: 127, Most: 128}, api.OK},
		{"nothing", "", api.Terms{}, api.ErrForm},
		{"the terms without a key", "\x12\x63", api.Terms{}, api.ErrForm},
		{"a key of 31 bytes", key[1:] + "\x12\x63", api.Terms{}, api.ErrForm},
		{"a key of 33 bytes", key + "\x12\x63\x63", api.Terms{}, api.ErrForm},
		{"the key alone", key, api.Terms{}, api.ErrForm},
		{"one number", key + "\x12", api.Terms{}, api.ErrForm},
		{"a number of two bytes alone", key + "\x96\x01", api.Terms{}, api.ErrForm},
		{"three numbers", key + "\x00\x00\x00", api.Terms{}, api.ErrForm},
		{"a key behind the terms", key + "\x12\x63" + key, api.Terms{}, api.ErrForm},
		{"the terms twice", key + "\x12\x63\x12\x63", api.Terms{}, api.ErrForm},
		{"Least above Most", key + "\x63\x12", api.Terms{}, api.ErrForm},
		{"Most above 150", key + "\x00\x97\x01", api.Terms{}, api.ErrForm},
		{"both above 150", key + "\x97\x01\x97\x01", api.Terms{}, api.ErrForm},
		{"Least with a byte too many", key + "\x80\x00\x63", api.Terms{}, api.ErrForm},
		{"Most with a byte too many", key + "\x12\xe3\x00", api.Terms{}, api.ErrForm},
		{"Least cut off", key + "\x80", api.Terms{}, api.ErrForm},
		{"Most cut off", key + "\x12\x96", api.Terms{}, api.ErrForm},
		{"Most with eight bytes", key + "\x12\x80\x80\x80\x80\x80\x80\x80\x01", api.Terms{}, api.ErrForm},
		{"Most of 2^48", key + "\x12\x80\x80\x80\x80\x80\x80\x40", api.Terms{}, api.ErrForm},
		{"Most above 2^48", key + "\x12\x81\x80\x80\x80\x80\x80\x40", api.Terms{}, api.ErrForm},
		{"256 bytes", key + strings.Repeat("\x12\x63", 112), api.Terms{}, api.ErrForm},
	} {
		for _, free := range kinds {
			a, sealed, e := box.Seal(algebra.New(free, api.Tag{}), office.Key, 1, []byte(x.plain))
			if e != api.OK {
				t.Fatalf("Seal of %s: %d", x.what, e)
			}
			wantKey := api.Tag{}
			if x.e == api.OK {
				wantKey = api.Tag([]byte(key))
			}
			if got, terms, e := ticket.Open(a, office, sealed); got != wantKey || terms != x.terms || e != x.e {
				t.Errorf("free %v: %s is opened as %x, %v, %d", free, x.what, got, terms, e)
			}
		}
	}
}

// P14.2: ErrSeal, before ErrForm, for tickets that were changed and for keys of other authorities.
func TestTicketsThatAreNotOpened(t *testing.T) {
	for _, free := range kinds {
		for _, plain := range []string{contents(api.Tag(text(32)), 18, 99), "wrong", ""} {
			s := sealing{office.Key, 4, plain}
			d := started(free)
			d.sealings = append(d.sealings, s, sealing{api.Tag{6}, 4, contents(api.Tag{2}, 1, 2)})
			a := d.algebra()
			x := []byte(d.box(1))
			checkOpen(t, d, a, office, x)
			wrong := [][]byte{nil, {}, x[1:], slices.Concat(x, []byte{0}), slices.Concat(x, x), []byte(plain), []byte(d.box(2)), text(4096)}
			for i := range x {
				wrong = append(wrong, x[:i])
				for bit := range 8 {
					y := bytes.Clone(x)
					y[i] ^= 1 << bit
					wrong = append(wrong, y)
				}
			}
			for _, y := range wrong {
				checkOpen(t, d, a, office, y)
				if key, terms, e := ticket.Open(a, office, y); key != (api.Tag{}) || terms != (api.Terms{}) || e != api.ErrSeal {
					t.Errorf("free %v: %x instead of %x is opened as %x, %v, %d", free, y, x, key, terms, e)
				}
			}
			for bit := range 256 {
				c := office
				c.Key[bit/8] ^= 1 << (bit % 8)
				if key, terms, e := ticket.Open(a, c, x); key != (api.Tag{}) || terms != (api.Terms{}) || e != api.ErrSeal {
					t.Errorf("free %v: the ticket is opened under %x as %x, %v, %d", free, c.Key, key, terms, e)
				}
			}
		}
	}
}

// P14.2: in a free algebra only tickets that were made are opened; in a computed one all that are sealed with the key of the authority.
func TestTicketsOfOtherAlgebras(t *testing.T) {
	for _, free := range kinds {
		_, blank := mustBlank(t, algebra.New(free, api.Tag{1}), office, old)
		for _, opener := range kinds {
			want := api.ErrSeal
			if !free && !opener {
				want = api.OK
			}
			if _, _, e := ticket.Open(started(opener).algebra(), office, blank.Ticket); e != want {
				t.Errorf("a ticket (free %v) is opened (free %v): %d, want %d", free, opener, e, want)
			}
		}
	}
}

// P14.3: tickets of all sorts of lengths, with parties inside and outside their range: which of the errors is the first one.
func TestErrorsOfAdd(t *testing.T) {
	p := api.Pass{Epoch: 3, Serial: 9, Tag: api.Tag{8}}
	long := p
	long.Caveats = slices.Repeat([]api.Caveat{rides(5)}, 64)
	for _, free := range kinds {
		d := started(free)
		a := d.algebra()
		before := copied(a)
		for _, size := range []int{0, 1, 31, 32, 75, 255, 256, 257, 1023, 1024, 1025, 4091, 4092, 4093, 4094, 4095, 4096, 4097, 10000} {
			for _, party := range []int{math.MinInt, -1, 0, 1, 7, 8, math.MaxInt} {
				b := api.Blank{Party: party, Key: api.Tag{1, 31: 2}, Ticket: text(size)}
				checkAdd(t, d, a, p, b)
				checkAdd(t, d, a, long, b)
				want := api.OK
				if size > 4092 {
					want = api.ErrLimit
				} else if size < 1 || size > 1024 || party < 0 || party > 7 {
					want = api.ErrForm
				}
				if _, _, e := ticket.Add(a, p, b); e != want {
					t.Errorf("free %v: Add of a ticket of %d bytes for the party %d: %d, want %d", free, size, party, e, want)
				}
			}
		}
		if !same(a, before) {
			t.Errorf("free %v: the algebra was changed", free)
		}
	}
}

// P14.3: the numbers of caveats and of third-party caveats that a pass has already, wherever these stand in it.
func TestLimitsOfPasses(t *testing.T) {
	for _, free := range kinds {
		d := started(free)
		a := d.algebra()
		p := api.Pass{Epoch: 3, Serial: 9, Tag: api.Tag{8}}
		for _, n := range []int{0, 1, 7, 8, 9, 62, 63, 64, 65, 200} {
			for _, thirds := range []int{0, 1, 7, 8, 9, 64} {
				for _, back := range []bool{false, true} {
					p.Caveats = nil
					for i := range n {
						if i < thirds && !back || i >= n-thirds && back {
							p.Caveats = append(p.Caveats, third(i%8, string(text(i+1)), "b"))
						} else {
							p.Caveats = append(p.Caveats, rides(i))
						}
					}
					checkAdd(t, d, a, p, api.Blank{Party: 7, Ticket: []byte("ticket")})
					checkAdd(t, d, a, p, api.Blank{Party: 8, Ticket: []byte("ticket")})
					want := api.OK
					if n >= 64 || n >= 8 && thirds >= 8 {
						want = api.ErrLimit
					}
					if _, q, e := ticket.Add(a, p, api.Blank{Party: 7, Ticket: []byte("ticket")}); e != want || e == api.OK && len(q.Caveats) != n+1 {
						t.Errorf("free %v: Add to %d caveats, %d of them third-party caveats: %d, want %d", free, n, thirds, e, want)
					}
				}
			}
		}
	}
}

// P14.3: ErrLimit if there is no room for all entries, before ErrForm where the first tag or the box has none; entries that are there already need none.
func TestFullAlgebrasOfAdd(t *testing.T) {
	for _, free := range kinds {
		for tags := api.MaxEntries - 4; tags <= api.MaxEntries; tags++ {
			for boxes := api.MaxEntries - 1; boxes <= api.MaxEntries; boxes++ {
				for existing := range 5 { // entries of the caveat that are there already
					checkFull(t, free, tags, boxes, existing)
				}
			}
		}
	}
}

// checkFull checks Add for algebras with these numbers of tags and boxes, among them the first ones that Add would make.
func checkFull(t *testing.T, free bool, tags, boxes, existing int) {
	t.Helper()
	p := api.Pass{Epoch: 3, Serial: 9, Tag: api.Tag{8}}
	blank := api.Blank{Party: 7, Key: api.Tag{2}, Ticket: []byte("ticket")}
	made, _, _ := described{free: free}.add(p, blank)
	existingTags, existingBoxes := []int{0, 1, 1, 2, 3}[existing], []int{0, 0, 1, 1, 1}[existing]
	a := api.Algebra{Free: free, Macs: make([]api.Mac, tags), Boxes: make([]api.Sealed, boxes)}
	copy(a.Macs[100:], made.algebra().Macs[:existingTags])
	copy(a.Boxes[100:], made.algebra().Boxes[:existingBoxes])
	tags, boxes = tags+3-existingTags, boxes+1-existingBoxes
	want := api.OK
	if tags > api.MaxEntries || boxes > api.MaxEntries {
		want = api.ErrLimit
	}
	b, q, e := ticket.Add(a, p, blank)
	if e != want || e == api.OK && (len(b.Macs) != tags || len(b.Boxes) != boxes || len(q.Caveats) != 1) {
		t.Errorf("free %v: %d tags and %d boxes, %d entries are there: %d, %d tags and %d boxes, want %d", free, len(a.Macs), len(a.Boxes), existing, e, len(b.Macs), len(b.Boxes), want)
	}
	if e != api.OK && (!same(b, api.Algebra{}) || !samePass(q, api.Pass{})) {
		t.Errorf("free %v: %d tags and %d boxes: something is returned with the error", free, len(a.Macs), len(a.Boxes))
	}
	blank.Party = 8
	if existingTags == 0 && len(a.Macs) == api.MaxEntries || boxes > api.MaxEntries {
		want = api.ErrLimit
	} else {
		want = api.ErrForm
	}
	if b, q, e := ticket.Add(a, p, blank); !same(b, api.Algebra{}) || !samePass(q, api.Pass{}) || e != want {
		t.Errorf("free %v: %d tags and %d boxes, a wrong party: %d, want %d", free, len(a.Macs), len(a.Boxes), e, want)
	}
}

// P14.3: the order in which the errors of a full algebra and the others are found, written out.
func TestOrderOfErrorsOfAdd(t *testing.T) {
	p := api.Pass{Tag: api.Tag{8}}
	for _, free := range kinds {
		for _, x := range []struct {
			what        string
			tags, boxes int
			caveats     int
			b           api.Blank
			want        api.Errno
		}{
			{"room for all", 65533, 65535, 63, api.Blank{Ticket: []byte("t")}, api.OK},
			{"no room for the tag, and no ticket", 65536, 0, 0, api.Blank{}, api.ErrLimit},
			{"no room for the box, and no ticket", 0, 65536, 0, api.Blank{}, api.ErrLimit},
			{"no room for the node, and no ticket", 65535, 0, 0, api.Blank{}, api.ErrForm},
			{"no room for the node, and a party", 65534, 65535, 64, api.Blank{Party: 8, Ticket: []byte("t")}, api.ErrForm},
			{"no room for the node", 65535, 0, 0, api.Blank{Ticket: []byte("t")}, api.ErrLimit},
			{"no room for the id", 65534, 0, 0, api.Blank{Ticket: []byte("t")}, api.ErrLimit},
			{"no room in the pass, and no ticket", 0, 0, 64, api.Blank{}, api.ErrForm},
			{"no room in the pass", 0, 0, 64, api.Blank{Ticket: []byte("t")}, api.ErrLimit},
			{"a ticket too long for a tag, and a party", 0, 0, 0, api.Blank{Party: 8, Ticket: text(4093)}, api.ErrLimit},
			{"a ticket too long for a caveat", 0, 0, 64, api.Blank{Ticket: text(1025)}, api.ErrForm},
		} {
			a := algebra.New(free, api.Tag{})
			a.Macs, a.Boxes = make([]api.Mac, x.tags), make([]api.Sealed, x.boxes)
			p.Caveats = slices.Repeat([]api.Caveat{rides(1)}, x.caveats)
			b, q, e := ticket.Add(a, p, x.b)
			if e != x.want || e != api.OK && (!same(b, api.Algebra{}) || !samePass(q, api.Pass{})) {
				t.Errorf("free %v: %s: %d, want %d", free, x.what, e, x.want)
			}
			if e == api.OK && (len(b.Macs) != x.tags+3 || len(b.Boxes) != x.boxes+1) {
				t.Errorf("free %v: %s: %d tags and %d boxes follow", free, x.what, len(b.Macs), len(b.Boxes))
			}
		}
	}
}

// P14.3: a ticket is added to passes that nobody minted, and a blank that nobody made is added, too.
func TestPassesThatNobodyMinted(t *testing.T) {
	for _, free := range kinds {
		d := started(free)
		a := d.algebra()
		for _, p := range []api.Pass{{}, {Epoch: -5, Serial: math.MaxInt, Tag: api.Tag{1}}, {Epoch: 1001, Caveats: []api.Caveat{{}, {Party: 9}}, Tag: symbol("m", 1)}} {
			for _, b := range []api.Blank{{Ticket: []byte("t")}, {Party: 7, Key: p.Tag, Ticket: text(1024)}, {Party: 1, Key: api.Tag{31: 1}, Ticket: []byte("seal")}} {
				d, a, p = checkAdd(t, d, a, p, b)
			}
		}
	}
}

// P14.3: whatever a box depends on is changed: each box is another one, and what was made before needs no further entry.
func TestBoxesOfCaveats(t *testing.T) {
	for _, free := range kinds {
		d := started(free)
		a := d.algebra()
		boxes := map[string]bool{}
		var passes []api.Pass
		for _, tag := range []api.Tag{{}, {1}, {31: 1}} {
			for _, x := range []string{"t", "tt", "u", "\x00"} {
				for _, key := range []api.Tag{{}, {1}, {31: 1}} {
					var q api.Pass
					d, a, q = checkAdd(t, d, a, api.Pass{Tag: tag}, api.Blank{Key: key, Ticket: []byte(x)})
					boxes[string(q.Caveats[0].Box)] = true
					passes = append(passes, q)
				}
			}
		}
		// Each of the twelve chains has a tag for its boxes, two tags for each node, and a box for each key.
		if len(boxes) != 36 || len(a.Boxes) != 1+36 || len(a.Macs) != 2+12+2*36 {
			t.Errorf("free %v: %d different boxes, %d boxes and %d tags", free, len(boxes), len(a.Boxes), len(a.Macs))
		}
		for i, q := range passes {
			b, again, e := ticket.Add(a, api.Pass{Tag: []api.Tag{{}, {1}, {31: 1}}[i/12]}, api.Blank{Key: []api.Tag{{}, {1}, {31: 1}}[i%3], Ticket: q.Caveats[0].Ticket})
			if !same(b, a) || !samePass(again, q) || e != api.OK {
				t.Errorf("free %v: once more, the pass %d is %v, %d; %d boxes", free, i, again, e, len(b.Boxes))
			}
		}
	}
}

// branch is an algebra, and the tickets and passes that were made in it and before it.
type branch struct {
	d      described
	a      api.Algebra
	blanks []api.Blank
	passes []api.Pass
}

// P14.1 to P14.3: calls by lot, on a tree of algebras, each of which may be gone on with more than once.
func TestCallsByLot(t *testing.T) {
	offices := []api.Concession{office, {Party: 7, Key: api.Tag{6}}, {Party: 0, Key: office.Key}, {Party: 8, Key: office.Key}}
	terms := []api.Terms{{}, old, all, {Least: 128, Most: 150}, {Least: 2, Most: 1}}
	for _, free := range kinds {
		lot := rand.New(rand.NewPCG(14, 1))
		branches := []branch{{started(free), started(free).algebra(), []api.Blank{{}, {Party: 1, Ticket: []byte("t")}}, []api.Pass{{}, {Epoch: 1, Serial: 2, Tag: api.Tag{9}}}}}
		for range 2000 {
			b := branches[lot.IntN(len(branches))]
			blank, p := b.blanks[lot.IntN(len(b.blanks))], b.passes[lot.IntN(len(b.passes))]
			c := offices[lot.IntN(len(offices))]
			switch lot.IntN(6) {
			case 0, 1:
				b.d, b.a, blank = checkBlank(t, b.d, b.a, c, terms[lot.IntN(len(terms))])
				b.blanks = append(slices.Clone(b.blanks), blank)
			case 2, 3:
				b.d, b.a, p = checkAdd(t, b.d, b.a, p, blank)
				b.passes = append(slices.Clone(b.passes), p)
			case 4:
				b.d, b.a, p = checkAttenuate(t, b.d, b.a, p, rides(lot.IntN(2)))
				b.passes = append(slices.Clone(b.passes), p)
			default:
				x := blank.Ticket
				if len(p.Caveats) > 0 && lot.IntN(2) == 0 {
					x = p.Caveats[len(p.Caveats)-1].Box
				}
				checkOpen(t, b.d, b.a, c, x)
				continue
			}
			if len(b.d.calls) > 0 {
				branches = append(branches, b)
			}
		}
		if len(branches) < 300 {
			t.Errorf("free %v: only %d calls made something", free, len(branches))
		}
		for i, b := range branches {
			if !same(b.a, b.d.algebra()) {
				t.Errorf("free %v: the algebra %d is not as it was returned", free, i)
			}
		}
	}
}

// P14.4: a holder adds concessions of several authorities, and other caveats, to a pass. The gate opens each box with the tag of the node before it, and the authority opens each ticket: both find the same key.
func TestGatesAndAuthoritiesFindTheKey(t *testing.T) {
	for _, free := range kinds {
		a, p := mustMint(t, algebra.New(free, api.Tag{1}), 300)
		a, other := mustMint(t, a, 301)
		var offices []api.Concession
		var blanks []api.Blank
		var terms []api.Terms
		for i := range 8 {
			offices = append(offices, api.Concession{Party: i, Key: api.Tag{5, byte(i)}})
			terms = append(terms, api.Terms{Least: 20 * i, Most: 150 - i})
			var b api.Blank
			a, b = mustBlank(t, a, offices[i], terms[i])
			blanks = append(blanks, b)
		}
		for i, b := range blanks {
			a, p = mustAdd(t, a, p, b)
			a, p, _ = chain.Attenuate(a, p, []api.Caveat{rides(i), holder("ann")}[i%2])
			a, other = mustAdd(t, a, other, b)
		}
		tags, e := chain.Tags(a, root, 300, p.Caveats)
		if len(p.Caveats) != 16 || len(tags) != 17 || tags[16] != p.Tag || e != api.OK {
			t.Fatalf("free %v: the pass %v has the tags %x, %d", free, p, tags, e)
		}
		for i, b := range blanks {
			c := p.Caveats[2*i]
			for j, tag := range tags {
				key, ok := algebra.Look(a, tag, slices.Concat([]byte("seal"), c.Ticket))
				plain, e := box.Open(a, key, c.Box)
				if right := j == 2*i; right != (ok && e == api.OK && bytes.Equal(plain, b.Key[:])) || !right && e == api.OK {
					t.Errorf("free %v: with the tag of the node %d, the box of the node %d is opened as %x, %v, %d", free, j, 2*i+1, plain, ok, e)
				}
			}
			for j, office := range offices {
				key, got, e := ticket.Open(a, office, c.Ticket)
				if j == i && (key != b.Key || got != terms[i] || e != api.OK) || j != i && e != api.ErrSeal {
					t.Errorf("free %v: the authority %d opens the ticket %d as %x, %v, %d", free, j, i, key, got, e)
				}
			}
			if bytes.Equal(c.Box, other.Caveats[i].Box) || !bytes.Equal(c.Ticket, other.Caveats[i].Ticket) {
				t.Errorf("free %v: another pass has the caveat %v, this one %v", free, other.Caveats[i], c)
			}
		}
		if _, _, e := ticket.Add(a, p, blanks[0]); e != api.ErrLimit {
			t.Errorf("free %v: a ninth concession: %d", free, e)
		}
	}
}

// P14.4: in a free algebra nothing that is seen of a pass opens its boxes or its tickets.
func TestNothingThatIsSeenOpensBoxes(t *testing.T) {
	a, secret, _ := algebra.Key(algebra.New(true, api.Tag{}))
	a, rootKey, _ := algebra.Key(a)
	c := api.Concession{Party: 1, Key: secret}
	a, p, _ := chain.Mint(a, api.Epoch{Number: 1, Key: rootKey}, 1)
	a, blank := mustBlank(t, a, c, old)
	a, q := mustAdd(t, a, p, blank)
	a, q, _ = chain.Attenuate(a, q, rides(5))
	tags, _ := chain.Tags(a, api.Epoch{Number: 1, Key: rootKey}, 1, q.Caveats)
	known, _ := chain.Nodes(a, tags)
	known = append(known, q.Tag, api.Tag{})
	x := q.Caveats[0]
	for i := 0; i < len(known) && len(known) < 200; i++ {
		if plain, e := box.Open(a, known[i], x.Box); len(plain) != 0 || e != api.ErrSeal {
			t.Errorf("the box is opened with %x: %x, %d", known[i], plain, e)
		}
		if key, _, e := ticket.Open(a, api.Concession{Party: 1, Key: known[i]}, x.Ticket); key != (api.Tag{}) || e != api.ErrSeal {
			t.Errorf("the ticket is opened with %x: %x, %d", known[i], key, e)
		}
		for _, message := range []string{"seal" + string(x.Ticket), "node", "mint\x01", "seal"} {
			var tag api.Tag
			a, tag, _ = algebra.Mac(a, known[i], []byte(message))
			known = append(known, tag)
		}
	}
}

// R3: no function modifies its arguments, not even behind their ends, and no result shares memory with them, but for the entries of algebras.
func TestSharedMemory(t *testing.T) {
	spoil := func(b []byte) {
		for i := range b[:cap(b)] {
			b[:cap(b)][i] ^= 255
		}
	}
	for _, free := range kinds {
		a, p := mustMint(t, started(free).algebra(), 1)
		a, first := mustBlank(t, a, office, all)
		a, p = mustAdd(t, a, p, first)
		p.Caveats = append(p.Caveats, rides(6), rides(7))[:1]
		a.Macs = append(a.Macs, api.Mac{Tag: api.Tag{1}}, api.Mac{Tag: api.Tag{2}}, api.Mac{}, api.Mac{})[:len(a.Macs)]
		a.Boxes = append(a.Boxes, api.Sealed{Nonce: 1}, api.Sealed{Nonce: 2})[:len(a.Boxes)]
		keptA, keptP := copied(a), copiedPass(p)

		b, blank := mustBlank(t, a, office, old)
		keptB, keptTicket := copied(b), bytes.Clone(blank.Ticket)
		_, sameAgain := mustBlank(t, a, office, old)
		spoil(blank.Ticket)
		if !same(b, keptB) || !bytes.Equal(sameAgain.Ticket, keptTicket) {
			t.Errorf("free %v: the ticket shares memory: %v", free, b.Boxes)
		}
		blank.Ticket = append(bytes.Clone(keptTicket), "more"...)[:len(keptTicket)]

		c, q := mustAdd(t, b, p, blank)
		keptC, keptQ := copied(c), copiedPass(q)
		_, other := mustAdd(t, b, p, blank)
		_, again := mustAdd(t, c, p, blank)
		ticket.Open(b, office, blank.Ticket)
		ticket.Add(b, p, api.Blank{})
		ticket.Blank(a, office, all)
		if !same(a, keptA) || !same(b, keptB) || !samePass(p, keptP) || string(blank.Ticket[:len(keptTicket)+4]) != string(keptTicket)+"more" {
			t.Errorf("free %v: an argument was modified", free)
		}
		if l := a.Macs[:len(a.Macs)+4]; l[len(l)-4].Tag != (api.Tag{1}) || l[len(l)-3].Tag != (api.Tag{2}) || a.Boxes[:len(a.Boxes)+2][len(a.Boxes)].Nonce != 1 || p.Caveats[:3][1].First.Number != 6 || p.Caveats[:3][2].First.Number != 7 {
			t.Errorf("free %v: memory behind an argument was written", free)
		}

		spoil(blank.Ticket)
		for _, x := range p.Caveats {
			spoil(x.Ticket)
			spoil(x.Box)
		}
		clear(p.Caveats[:3])
		if !samePass(q, keptQ) || !samePass(other, keptQ) || !samePass(again, keptQ) || !same(c, keptC) {
			t.Errorf("free %v: the new pass became %v", free, q)
		}
		for _, x := range q.Caveats {
			spoil(x.Ticket)
			spoil(x.Box)
		}
		clear(q.Caveats[:cap(q.Caveats)])
		if !samePass(other, keptQ) || !samePass(again, keptQ) || !same(c, keptC) {
			t.Errorf("free %v: the other pass became %v", free, other)
		}
	}
}

// Nil and empty slices are equivalent.
func TestEmptyIsNil(t *testing.T) {
	for _, free := range kinds {
		a := api.Algebra{Free: free, Macs: []api.Mac{}, Boxes: []api.Sealed{}}
		b, blank := mustBlank(t, a, api.Concession{Party: 2, Key: api.Tag{5}, Persons: []api.Person{}}, old)
		c, other := mustBlank(t, algebra.New(free, api.Tag{}), office, old)
		if !same(b, c) || !sameBlank(blank, other) {
			t.Errorf("free %v: %v, %v", free, blank, other)
		}
		b, p := mustAdd(t, b, api.Pass{Caveats: []api.Caveat{}}, blank)
		c, q := mustAdd(t, c, api.Pass{}, blank)
		if !same(b, c) || !samePass(p, q) {
			t.Errorf("free %v: %v, %v", free, p, q)
		}
		for _, none := range [][]byte{nil, {}} {
			if b, p, e := ticket.Add(a, api.Pass{}, api.Blank{Ticket: none}); !same(b, api.Algebra{}) || !samePass(p, api.Pass{}) || e != api.ErrForm {
				t.Errorf("free %v: Add of no ticket: %v, %d", free, p, e)
			}
			if _, _, e := ticket.Open(a, office, none); e != api.ErrSeal {
				t.Errorf("free %v: Open of no ticket: %d", free, e)
			}
		}
	}
}

// R3, R4: calls that run at the same time do not disturb each other.
func TestCallsAtTheSameTime(t *testing.T) {
	for _, free := range kinds {
		d := started(free)
		d, a, blank := checkBlank(t, d, d.algebra(), office, old)
		d, a, p := checkAdd(t, d, a, api.Pass{Tag: api.Tag{9}}, blank)
		var group sync.WaitGroup
		for n := range 8 {
			group.Go(func() {
				for range 30 {
					c := api.Concession{Party: n, Key: api.Tag{5, byte(n)}}
					want, wantBlank, _ := d.blank(c, all)
					b, x, e := ticket.Blank(a, c, all)
					want, wantPass, _ := want.add(p, wantBlank)
					b, q, f := ticket.Add(b, p, x)
					key, terms, g := ticket.Open(b, c, x.Ticket)
					if !same(b, want.algebra()) || !sameBlank(x, wantBlank) || !samePass(q, wantPass) || key != x.Key || terms != all || e != api.OK || f != api.OK || g != api.OK {
						t.Errorf("free %v: %v, %d; %v, %d; %x, %v, %d", free, x, e, q, f, key, terms, g)
						return
					}
				}
			})
		}
		group.Wait()
	}
}
