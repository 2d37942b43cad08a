package chain_test

import (
	"encoding/hex"
	"math"
	"math/rand/v2"
	"slices"
	"sync"
	"testing"

	"macaroon/algebra"
	"macaroon/api"
	"macaroon/caveat"
	"macaroon/chain"
)

var (
	kinds = []bool{false, true} // of algebras: computed, free
	root  = api.Epoch{Number: 3, Key: api.Tag{7}}
)

func first(p api.Predicate) api.Caveat { return api.Caveat{First: p} }

func rides(n int) api.Caveat { return first(api.Predicate{Kind: api.PredRides, Number: n}) }

func zones(mask uint64) api.Caveat { return first(api.Predicate{Kind: api.PredZone, Mask: mask}) }

func holder(name string) api.Caveat { return first(api.Predicate{Kind: api.PredHolder, Name: name}) }

func third(party int, ticket, box string) api.Caveat {
	return api.Caveat{Third: true, Party: party, Ticket: []byte(ticket), Box: []byte(box)}
}

// text returns n bytes that differ from their neighbours.
func text(n int) string {
	b := make([]byte, n)
	for i := range b {
		b[i] = byte(i*7 + i/256)
	}
	return string(b)
}

// wrongCaveats returns caveats that are not valid.
func wrongCaveats() []api.Caveat {
	return []api.Caveat{
		{}, rides(-1), rides(api.MaxRides + 1), zones(0), holder(""), holder("Bob"), {First: api.Predicate{Kind: 8}}, {First: rides(5).First, Party: 1},
		{Third: true}, third(-1, "t", "b"), third(8, "t", "b"), third(0, "", "b"), third(0, "t", ""), third(0, text(1025), "b"), third(0, "t", text(1025)),
	}
}

// checkMint compares Mint with what is described, and returns what follows.
func checkMint(t *testing.T, d described, a api.Algebra, root api.Epoch, serial int) (described, api.Algebra, api.Pass) {
	t.Helper()
	want, wantPass, wantErr := d.mint(root, serial)
	b, p, e := chain.Mint(a, root, serial)
	checkMade(t, "Mint", want, wantPass, wantErr, b, p, e)
	return want, b, p
}

// checkAttenuate compares Attenuate with what is described, and returns what follows.
func checkAttenuate(t *testing.T, d described, a api.Algebra, p api.Pass, c api.Caveat) (described, api.Algebra, api.Pass) {
	t.Helper()
	want, wantPass, wantErr := d.attenuate(p, c)
	b, q, e := chain.Attenuate(a, p, c)
	checkMade(t, "Attenuate", want, wantPass, wantErr, b, q, e)
	return want, b, q
}

func checkMade(t *testing.T, what string, want described, wantPass api.Pass, wantErr api.Errno, b api.Algebra, p api.Pass, e api.Errno) {
	t.Helper()
	wantAlgebra := api.Algebra{}
	if wantErr == api.OK {
		wantAlgebra = want.algebra()
	}
	if !same(b, wantAlgebra) || !samePass(p, wantPass) || e != wantErr {
		t.Fatalf("%s: %.90v, %d entries, %d, want %.90v, %d entries, %d", what, p, len(b.Macs), e, wantPass, len(wantAlgebra.Macs), wantErr)
	}
}

func checkTags(t *testing.T, d described, a api.Algebra, root api.Epoch, serial int, l []api.Caveat) {
	t.Helper()
	want, wantErr := d.tags(root, serial, l)
	if tags, e := chain.Tags(a, root, serial, l); !slices.Equal(tags, want) || e != wantErr {
		t.Fatalf("free %v: Tags of the serial number %d and %.90v: %x, %d, want %x, %d", d.free, serial, l, tags, e, want, wantErr)
	}
}

func checkNodes(t *testing.T, d described, a api.Algebra, tags []api.Tag) {
	t.Helper()
	want, wantErr := d.nodes(tags)
	if ids, e := chain.Nodes(a, tags); !slices.Equal(ids, want) || e != wantErr {
		t.Fatalf("free %v: Nodes of %x: %x, %d, want %x, %d", d.free, tags, ids, e, want, wantErr)
	}
}

// mustMint and mustAttenuate return what follows a, with a pass.
func mustMint(t *testing.T, a api.Algebra, root api.Epoch, serial int) (api.Algebra, api.Pass) {
	t.Helper()
	b, p, e := chain.Mint(a, root, serial)
	if e != api.OK {
		t.Fatalf("Mint of %d: %d", serial, e)
	}
	return b, p
}

func mustAttenuate(t *testing.T, a api.Algebra, p api.Pass, l ...api.Caveat) (api.Algebra, api.Pass) {
	t.Helper()
	for _, c := range l {
		var e api.Errno
		if a, p, e = chain.Attenuate(a, p, c); e != api.OK {
			t.Fatalf("Attenuate with %.60v: %d", c, e)
		}
	}
	return a, p
}

// P13.1, P13.2: passes of a free algebra with all their entries written out, the document's examples among them.
func TestFreePassesWrittenOut(t *testing.T) {
	start := described{free: true}.algebra()
	a, p := mustMint(t, start, root, 300)
	a, q := mustAttenuate(t, a, p, rides(5))
	a, r := mustAttenuate(t, a, q, holder("bob"))
	a, s := mustAttenuate(t, a, r, third(7, "t", "bb"))
	a, x := mustAttenuate(t, a, p, zones(6))
	a, again := mustMint(t, a, root, 300)
	a, further := mustAttenuate(t, a, again, rides(5), holder("bob"))
	a, other := mustMint(t, a, api.Epoch{Number: 4, Key: root.Key}, 1)
	want := start
	for _, c := range []struct {
		key     api.Tag
		message string
	}{
		{api.Tag{7}, "mint\xac\x02"}, {symbol(1), "node"},
		{symbol(1), "caveat\x01\x07\x05"}, {symbol(3), "node"},
		{symbol(3), "caveat\x01\x06\x03bob"}, {symbol(5), "node"},
		{symbol(5), "caveat\x02\x07\x01t\x02bb"}, {symbol(7), "node"},
		{symbol(1), "caveat\x01\x01\x00\x00\x00\x00\x00\x00\x00\x06"}, {symbol(9), "node"},
		{api.Tag{7}, "mint\x01"}, {symbol(11), "node"},
	} {
		want.Macs = append(want.Macs, api.Mac{Key: c.key, Message: []byte(c.message), Tag: symbol(len(want.Macs) + 1)})
	}
	if !same(a, want) {
		t.Errorf("the algebra is %v, want %v", a, want)
	}
	for i, c := range []struct{ got, want api.Pass }{
		{p, api.Pass{Epoch: 3, Serial: 300, Tag: symbol(1)}},
		{q, api.Pass{Epoch: 3, Serial: 300, Caveats: []api.Caveat{rides(5)}, Tag: symbol(3)}},
		{r, api.Pass{Epoch: 3, Serial: 300, Caveats: []api.Caveat{rides(5), holder("bob")}, Tag: symbol(5)}},
		{s, api.Pass{Epoch: 3, Serial: 300, Caveats: []api.Caveat{rides(5), holder("bob"), third(7, "t", "bb")}, Tag: symbol(7)}},
		{x, api.Pass{Epoch: 3, Serial: 300, Caveats: []api.Caveat{zones(6)}, Tag: symbol(9)}},
		{again, p},
		{further, r},
		{other, api.Pass{Epoch: 4, Serial: 1, Tag: symbol(11)}},
	} {
		if !samePass(c.got, c.want) {
			t.Errorf("the pass %d is %v, want %v", i, c.got, c.want)
		}
	}
	tags, e := chain.Tags(a, root, 300, s.Caveats)
	if !slices.Equal(tags, []api.Tag{symbol(1), symbol(3), symbol(5), symbol(7)}) || e != api.OK {
		t.Errorf("the tags are %x, %d", tags, e)
	}
	ids, e := chain.Nodes(a, tags)
	if !slices.Equal(ids, []api.Tag{symbol(2), symbol(4), symbol(6), symbol(8)}) || e != api.OK {
		t.Errorf("the ids are %x, %d", ids, e)
	}
}

// P13.1: a computed pass, with tags and ids as another program has computed them. They are looked up in an algebra without entries.
func TestComputedPassWrittenOut(t *testing.T) {
	a, p := mustMint(t, algebra.New(false, api.Tag{}), root, 300)
	passes := []api.Pass{p}
	for _, c := range []api.Caveat{zones(6), holder("bob"), third(7, "t", "bb")} {
		a, p = mustAttenuate(t, a, p, c)
		passes = append(passes, p)
	}
	tags, e := chain.Tags(algebra.New(false, api.Tag{}), root, 300, p.Caveats)
	ids, f := chain.Nodes(algebra.New(false, api.Tag{}), tags)
	if len(tags) != 4 || len(ids) != 4 || len(a.Macs) != 8 || e != api.OK || f != api.OK {
		t.Fatalf("Tags: %x, %d; Nodes: %x, %d", tags, e, ids, f)
	}
	for i, want := range [][2]string{
		{"d4316adf5dbf5092d0ca673425a3bda819eec1d6ebb4b35ff9b74130c032c705", "0f2c98ade6a8f9d7122b60c81f1966cf25eb80d754f5bbc7e8434df9492a2fcb"},
		{"b40352ba21cf0bc6005eaac38e3cfd68a5b31dd72edf6c8bfca12a20e8a440a0", "d4372d806f58ecb0666ea627c1ff037369a8272202a5b04fa2fc05c2b9a95921"},
		{"8b196d2ce52330791b3e7e150dfaeb7b5dbb1814955a99fc5ec3fad2ef450f18", "0839290ee2150da9bdda89f112893ab6b3c1ea52f54ea62d4a2da6c136888aa4"},
		{"97fc299cffd624059129c1c8f29c5d1f17a41e5015b9d410b9b1a377d1103ff0", "0a8a12dca4f97a13a8d364d3408ceb76bc0e77537ae062d7c14a13914eb8bad3"},
	} {
		got := []string{hex.EncodeToString(tags[i][:]), hex.EncodeToString(ids[i][:])}
		if got[0] != want[0] || got[1] != want[1] || tags[i] != passes[i].Tag || a.Macs[2*i].Tag != tags[i] || a.Macs[2*i+1].Tag != ids[i] {
			t.Errorf("the node %d has the tag and the id %v; the pass has the tag %x", i, got, passes[i].Tag)
		}
	}
}

// P13.1: the messages of first nodes with serial numbers of all lengths.
func TestMessagesOfMints(t *testing.T) {
	for serial, want := range map[int]string{
		1: "mint\x01", 110: "mintn", 127: "mint\x7f", 128: "mint\x80\x01", 16383: "mint\xff\x7f", 16384: "mint\x80\x80\x01",
		1 << 21: "mint\x80\x80\x80\x01", 1 << 28: "mint\x80\x80\x80\x80\x01", 1<<30 - 1: "mint\xff\xff\xff\xff\x03", 1 << 30: "mint\x80\x80\x80\x80\x04",
	} {
		for _, free := range kinds {
			a, p := mustMint(t, algebra.New(free, api.Tag{}), root, serial)
			if p.Serial != serial || p.Epoch != 3 || len(a.Macs) != 2 || string(a.Macs[0].Message) != want || a.Macs[0].Key != root.Key || a.Macs[0].Tag != p.Tag {
				t.Errorf("free %v: the mint %d is %v, with the entries %v", free, serial, p, a.Macs)
			}
			if a.Macs[1].Key != p.Tag || string(a.Macs[1].Message) != "node" {
				t.Errorf("free %v: the id of the mint %d is %v", free, serial, a.Macs[1])
			}
		}
	}
}

// P13.1: the messages of later nodes, up to the longest one.
func TestMessagesOfCaveats(t *testing.T) {
	for want, c := range map[string]api.Caveat{
		"caveat\x01\x07\x00":                                            rides(0),
		"caveat\x01\x07\xac\x02":                                        rides(300),
		"caveat\x01\x06\x04node":                                        holder("node"),
		"caveat\x01\x04\x00\x80\x80\x80\x20":                            first(api.Predicate{Kind: api.PredTime, To: api.MaxMinute}),
		"caveat\x01\x05\xe4\x0a\xac\x02":                                first(api.Predicate{Kind: api.PredDaily, From: 1380, To: 300}),
		"caveat\x01\x03\x00\x00\x00\x00\x00\x00\x00A":                   first(api.Predicate{Kind: api.PredDays, Mask: 65}),
		"caveat\x02\x00\x01t\x01b":                                      third(0, "t", "b"),
		"caveat\x02\x03\x80\x08" + text(1024) + "\x80\x08" + text(1024): third(3, text(1024), text(1024)),
	} {
		for _, free := range kinds {
			a, p := mustAttenuate(t, algebra.New(free, api.Tag{}), api.Pass{Epoch: 1, Serial: 2, Tag: api.Tag{9}}, c)
			if len(a.Macs) != 2 || string(a.Macs[0].Message) != want || a.Macs[0].Key != (api.Tag{9}) || a.Macs[0].Tag != p.Tag {
				t.Errorf("free %v: the caveat %.60v has the entries %.90v", free, c, a.Macs)
			}
			if !caveat.Same(p.Caveats, []api.Caveat{c}) || a.Macs[1].Key != p.Tag || string(a.Macs[1].Message) != "node" {
				t.Errorf("free %v: the caveat %.60v makes the pass %.60v, with the id %v", free, c, p, a.Macs[1])
			}
		}
	}
}

// P13.1, P13.3: a pass with 64 caveats: each part of it is looked up, and none after any one caveat is changed.
func TestLongPass(t *testing.T) {
	for _, free := range kinds {
		d, a, p := checkMint(t, described{free: free}, described{free: free}.algebra(), root, 5)
		for n := range 64 {
			c := rides(n / 2)
			if n%9 == 8 {
				c = third(n%8, text(n), text(2*n))
			}
			d, a, p = checkAttenuate(t, d, a, p, c)
			checkTags(t, d, a, root, 5, p.Caveats)
		}
		tags, e := chain.Tags(a, root, 5, p.Caveats)
		if len(tags) != 65 || e != api.OK || tags[64] != p.Tag {
			t.Fatalf("free %v: %d tags, %d", free, len(tags), e)
		}
		checkNodes(t, d, a, tags)
		for i := range 64 {
			changed := slices.Clone(p.Caveats)
			changed[i] = rides(1000)
			checkTags(t, d, a, root, 5, changed)
			checkTags(t, d, a, root, 5, slices.Delete(slices.Clone(p.Caveats), i, i+1))
			changed[i] = api.Caveat{}
			checkTags(t, d, a, root, 5, changed)
		}
	}
}

// numbers are inside and outside the ranges of serial numbers and epochs.
var numbers = []int{math.MinInt, -1 << 32, -1, 0, 1, 2, 3, 999, 1000, 1001, 1<<30 - 1, 1 << 30, 1<<30 + 1, 1<<32 + 1, 1<<48 + 1, math.MaxInt}

// P13.2, P13.3: all pairs of an epoch and a serial number; ErrRange comes before the other errors.
func TestRanges(t *testing.T) {
	for _, free := range kinds {
		full := described{free: free}.algebra()
		full.Macs = make([]api.Mac, api.MaxEntries)
		for _, epoch := range numbers {
			for _, serial := range numbers {
				r := api.Epoch{Number: epoch, Key: api.Tag{7}}
				d, a, p := checkMint(t, described{free: free}, described{free: free}.algebra(), r, serial)
				want := api.OK
				if isRange(epoch, serial) {
					want = api.ErrRange
				}
				if tags, e := chain.Tags(a, r, serial, nil); e != want || e == api.OK && !slices.Equal(tags, []api.Tag{p.Tag}) || e != api.OK && len(tags) != 0 {
					t.Errorf("free %v: Tags of the serial number %d and the epoch %d: %x, %d", free, serial, epoch, tags, e)
				}
				if want == api.OK {
					checkTags(t, d, a, r, serial, []api.Caveat{rides(5)})
					continue
				}
				if _, _, e := chain.Mint(full, r, serial); e != api.ErrRange {
					t.Errorf("free %v: Mint of the serial number %d in the epoch %d, with a full algebra: %d", free, serial, epoch, e)
				}
				if tags, e := chain.Tags(a, r, serial, wrongCaveats()); len(tags) != 0 || e != api.ErrRange {
					t.Errorf("free %v: Tags of the serial number %d and the epoch %d, and wrong caveats: %x, %d", free, serial, epoch, tags, e)
				}
			}
		}
	}
}

// P13.2: ErrLimit if there is no room for both entries; those that are there already need none.
func TestFullAlgebra(t *testing.T) {
	p := api.Pass{Epoch: 3, Serial: 9, Tag: api.Tag{8}}
	for _, free := range kinds {
		for _, existing := range []int{0, 1, 2} { // entries of the node
			for size := api.MaxEntries - 3; size <= api.MaxEntries; size++ {
				d := described{free: free}
				for i := range size {
					d.calls = append(d.calls, call{api.Tag{1, byte(i), byte(i >> 8)}, ""})
				}
				for i, node := range []call{{root.Key, "mint\x09"}, {p.Tag, "caveat\x01\x07\x05"}} {
					d.calls = slices.Clone(d.calls)
					at := 100 + 2*i
					if existing > 0 {
						d.calls[at] = node
					}
					if existing > 1 {
						d.calls[at+1] = call{d.tag(at), "node"}
					}
				}
				want := api.OK
				if size+2-existing > api.MaxEntries {
					want = api.ErrLimit
				}
				checkFull(t, d.algebra(), size+2-existing, p, want)
			}
		}
	}
}

// checkFull checks Mint and Attenuate for an algebra that is nearly full, and would then have the given number of entries.
func checkFull(t *testing.T, a api.Algebra, entries int, p api.Pass, want api.Errno) {
	t.Helper()
	b, minted, e := chain.Mint(a, root, 9)
	c, attenuated, f := chain.Attenuate(a, p, rides(5))
	if e != want || f != want {
		t.Fatalf("free %v, %d entries of %d: %d, %d", a.Free, len(a.Macs), entries, e, f)
	}
	if want != api.OK {
		if !same(b, api.Algebra{}) || !same(c, api.Algebra{}) || !samePass(minted, api.Pass{}) || !samePass(attenuated, api.Pass{}) {
			t.Fatalf("free %v, %d entries: something is returned with the error", a.Free, len(a.Macs))
		}
		return
	}
	if len(b.Macs) != entries || len(c.Macs) != entries || minted.Serial != 9 || len(attenuated.Caveats) != 1 {
		t.Fatalf("free %v, %d entries: %d and %d follow, want %d", a.Free, len(a.Macs), len(b.Macs), len(c.Macs), entries)
	}
}

// P13.2: ErrForm for each caveat that is not valid, before all other errors.
func TestCaveatsThatAreNotValid(t *testing.T) {
	for _, free := range kinds {
		d := described{free: free}
		d, a, p := checkMint(t, d, d.algebra(), root, 1)
		full := a
		full.Macs = make([]api.Mac, api.MaxEntries)
		long := p
		long.Caveats = slices.Repeat([]api.Caveat{third(0, "t", "b")}, 64)
		for _, c := range wrongCaveats() {
			checkAttenuate(t, d, a, p, c)
			checkAttenuate(t, d, a, long, c)
			b, q, e := chain.Attenuate(full, long, c)
			if !same(b, api.Algebra{}) || !samePass(q, api.Pass{}) || e != api.ErrForm {
				t.Errorf("free %v: Attenuate with %.60v: %.60v, %d", free, c, q, e)
			}
		}
	}
}

// P13.2: the numbers of caveats and of third-party caveats, wherever these stand in the pass.
func TestLimitsOfPasses(t *testing.T) {
	for _, free := range kinds {
		d := described{free: free}
		d, a, p := checkMint(t, d, d.algebra(), root, 1)
		for _, n := range []int{0, 1, 7, 8, 9, 62, 63, 64, 65, 66, 200} {
			for _, thirds := range []int{0, 1, 6, 7, 8, 9, 64} {
				for _, back := range []bool{false, true} {
					p.Caveats = nil
					for i := range n {
						if i < thirds && !back || i >= n-thirds && back {
							p.Caveats = append(p.Caveats, third(i%8, text(i+1), "b"))
						} else {
							p.Caveats = append(p.Caveats, rides(i))
						}
					}
					checkAttenuate(t, d, a, p, rides(5))
					checkAttenuate(t, d, a, p, third(7, "ticket", "box"))
				}
			}
		}
	}
}

// P13.2: a pass is attenuated whatever it is: its other fields, and caveats that it has already, are not looked at.
func TestPassesThatNobodyMinted(t *testing.T) {
	for _, free := range kinds {
		d := described{free: free}
		a := d.algebra()
		for _, p := range []api.Pass{
			{}, {Epoch: -5, Serial: math.MaxInt, Tag: api.Tag{1}}, {Epoch: 1001, Caveats: wrongCaveats(), Tag: symbol(1)},
			{Serial: -1, Caveats: []api.Caveat{{Third: true, First: rides(5).First}}, Tag: symbol(2)},
		} {
			d, a, p = checkAttenuate(t, d, a, p, rides(5))
			d, a, p = checkAttenuate(t, d, a, p, holder("ann"))
			d, a, _ = checkAttenuate(t, d, a, p, third(1, "t", "b"))
		}
	}
}

// P13.3: Tags with everything that a tag depends on changed, and the first of several errors.
func TestTags(t *testing.T) {
	l := []api.Caveat{rides(5), third(2, "t", "b"), rides(5), holder("bob")}
	elements := []api.Caveat{rides(5), third(2, "t", "b"), holder("bob"), rides(6), {}, third(9, "t", "b")}
	for _, free := range kinds {
		d := described{free: free}
		d, a, p := checkMint(t, d, d.algebra(), root, 300)
		for _, c := range l {
			d, a, p = checkAttenuate(t, d, a, p, c)
		}
		before := copied(a)
		var extend func(l []api.Caveat)
		extend = func(l []api.Caveat) {
			for _, r := range []api.Epoch{root, {Number: 4, Key: root.Key}, {Number: 3, Key: api.Tag{7, 31: 1}}, {Number: 3}, {Key: root.Key}, {Number: 3, Key: p.Tag}} {
				for _, serial := range []int{300, 301, 0} {
					checkTags(t, d, a, r, serial, l)
				}
			}
			for i := 0; i < len(elements) && len(l) < 4; i++ {
				extend(append(slices.Clone(l), elements[i]))
			}
		}
		extend(nil)
		checkTags(t, d, a, root, 300, append(slices.Clone(l), rides(5)))
		checkTags(t, described{free: free}, described{free: free}.algebra(), root, 300, l)
		if !same(a, before) {
			t.Errorf("free %v: Tags made something", free)
		}
	}
}

// P13.3: the errors of Tags, written out.
func TestErrorsOfTags(t *testing.T) {
	for _, free := range kinds {
		missing := api.OK
		if free {
			missing = api.ErrTag
		}
		a, p := mustMint(t, algebra.New(free, api.Tag{}), root, 300)
		a, _ = mustAttenuate(t, a, p, rides(5), rides(6))
		for _, c := range []struct {
			what   string
			root   api.Epoch
			serial int
			l      []api.Caveat
			want   api.Errno
		}{
			{"the mint", root, 300, nil, api.OK},
			{"the pass", root, 300, []api.Caveat{rides(5), rides(6)}, api.OK},
			{"an epoch too low, and a caveat that is not valid", api.Epoch{Key: root.Key}, 300, []api.Caveat{{}}, api.ErrRange},
			{"an epoch too high, and another caveat", api.Epoch{Number: 1001, Key: root.Key}, 300, []api.Caveat{rides(7)}, api.ErrRange},
			{"a serial number too low", root, 0, nil, api.ErrRange},
			{"a serial number too high", root, 1<<30 + 1, nil, api.ErrRange},
			{"a caveat that is not valid behind another serial number", root, 301, []api.Caveat{{}}, api.ErrForm},
			{"a caveat that is not valid under another key", api.Epoch{Number: 3}, 300, []api.Caveat{rides(5), {}}, api.ErrForm},
			{"a caveat that is not valid behind another caveat", root, 300, []api.Caveat{rides(7), rides(6), third(0, "t", "")}, api.ErrForm},
			{"a caveat that is not valid behind the pass", root, 300, []api.Caveat{rides(5), rides(6), {}}, api.ErrForm},
			{"another serial number", root, 301, nil, missing},
			{"another key", api.Epoch{Number: 3, Key: api.Tag{31: 7}}, 300, nil, missing},
			{"another first caveat", root, 300, []api.Caveat{rides(6), rides(6)}, missing},
			{"another last caveat", root, 300, []api.Caveat{rides(5), rides(5)}, missing},
			{"a further caveat", root, 300, []api.Caveat{rides(5), rides(6), rides(6)}, missing},
			{"no first caveat", root, 300, []api.Caveat{rides(6)}, missing},
			{"the caveats in another order", root, 300, []api.Caveat{rides(6), rides(5)}, missing},
		} {
			tags, e := chain.Tags(a, c.root, c.serial, c.l)
			if e != c.want || e == api.OK && len(tags) != len(c.l)+1 || e != api.OK && len(tags) != 0 {
				t.Errorf("free %v: Tags of %s: %x, %d, want %d", free, c.what, tags, e, c.want)
			}
		}
	}
}

// P13.3: Tags has no limits of its own: chains that no pass may have are looked up, too.
func TestTagsOfChainsAboveTheLimits(t *testing.T) {
	for _, free := range kinds {
		d := described{free: free}
		d, tag := d.with(root.Key, "mint\x01")
		var l []api.Caveat
		for i := range 100 {
			c := third(i%8, text(i+1), text(1024))
			d, tag = d.with(tag, caveatMessage(c))
			l = append(l, c)
		}
		a := d.algebra()
		tags, e := chain.Tags(a, root, 1, l)
		if len(tags) != 101 || e != api.OK || tags[100] != tag {
			t.Fatalf("free %v: %d tags, %d", free, len(tags), e)
		}
		checkTags(t, d, a, root, 1, l)
		checkTags(t, d, a, root, 1, append(l, rides(5)))
		checkTags(t, d, a, root, 1, append(l, api.Caveat{}))
	}
}

// P13.3: Nodes of all lists of up to four tags, of which some have no id.
func TestNodes(t *testing.T) {
	for _, free := range kinds {
		d := described{free: free}
		d, a, p := checkMint(t, d, d.algebra(), root, 1)
		d, a, q := checkAttenuate(t, d, a, p, rides(5))
		d, without := d.with(q.Tag, "caveat\x01\x07\x06") // a node without an id
		a = d.algebra()
		before := copied(a)
		var extend func(tags []api.Tag)
		extend = func(tags []api.Tag) {
			checkNodes(t, d, a, tags)
			for _, tag := range []api.Tag{p.Tag, q.Tag, without, a.Macs[1].Tag, {}, root.Key} {
				if len(tags) < 4 {
					extend(append(slices.Clone(tags), tag))
				}
			}
		}
		extend(nil)
		if !same(a, before) {
			t.Errorf("free %v: Nodes made something", free)
		}
	}
	a, p := mustMint(t, algebra.New(true, api.Tag{}), root, 1)
	for _, tags := range [][]api.Tag{{{}}, {symbol(2)}, {p.Tag, symbol(3)}, {symbol(3), p.Tag}, {p.Tag, p.Tag, {}, p.Tag}} {
		if ids, e := chain.Nodes(a, tags); len(ids) != 0 || e != api.ErrTag {
			t.Errorf("Nodes of %x: %x, %d", tags, ids, e)
		}
	}
	for _, none := range [][]api.Tag{nil, {}} {
		if ids, e := chain.Nodes(algebra.New(true, api.Tag{}), none); len(ids) != 0 || e != api.OK {
			t.Errorf("Nodes of no tags: %x, %d", ids, e)
		}
	}
}

// branch is an algebra, and the passes that were made in it and before it.
type branch struct {
	d      described
	a      api.Algebra
	passes []api.Pass
}

// P13.1 to P13.3: calls by lot, on a tree of algebras, each of which may be gone on with more than once.
func TestCallsByLot(t *testing.T) {
	elements := append([]api.Caveat{rides(0), rides(5), holder("ann"), holder("bob"), zones(6), third(0, "t", "b"), third(1, "t", "b"), third(0, "tb", "b")}, wrongCaveats()[:2]...)
	roots := []api.Epoch{root, {Number: 4, Key: api.Tag{8}}, {Number: 5, Key: root.Key}, {Number: 0, Key: root.Key}}
	for _, free := range kinds {
		lot := rand.New(rand.NewPCG(13, 1))
		d := described{free: free}
		branches := []branch{{d: d, a: d.algebra(), passes: []api.Pass{{}}}}
		for range 1500 {
			b := branches[lot.IntN(len(branches))]
			b.passes = slices.Clone(b.passes)
			p := b.passes[lot.IntN(len(b.passes))]
			r := roots[lot.IntN(len(roots))]
			serial := lot.IntN(4)
			switch lot.IntN(5) {
			case 0:
				b.d, b.a, p = checkMint(t, b.d, b.a, r, serial)
			case 1, 2:
				b.d, b.a, p = checkAttenuate(t, b.d, b.a, p, elements[lot.IntN(len(elements))])
			default:
				checkTags(t, b.d, b.a, r, serial, p.Caveats)
				tags, _ := b.d.tags(r, p.Serial, p.Caveats)
				checkTags(t, b.d, b.a, r, p.Serial, p.Caveats)
				checkNodes(t, b.d, b.a, append(tags, p.Tag))
				continue
			}
			if p.Serial != 0 {
				b.passes = append(b.passes, p)
				branches = append(branches, b)
			}
		}
		if len(branches) < 300 {
			t.Errorf("free %v: only %d calls made something", free, len(branches))
		}
	}
}

// P13.4: whoever has a pass adds caveats, and the nodes of the new pass are those of the old one, and one more.
func TestCaveatsAreAddedByEverybody(t *testing.T) {
	l := []api.Caveat{zones(6), rides(5), third(1, "t", "b"), rides(5), holder("bob")}
	for _, free := range kinds {
		a, p := mustMint(t, algebra.New(free, api.Tag{}), root, 1)
		before, _ := chain.Tags(a, root, 1, nil)
		for _, c := range l {
			a, p = mustAttenuate(t, a, p, c)
			tags, e := chain.Tags(a, root, 1, p.Caveats)
			ids, f := chain.Nodes(a, tags)
			if e != api.OK || f != api.OK || len(tags) != len(p.Caveats)+1 || len(ids) != len(tags) || !slices.Equal(tags[:len(before)], before) || tags[len(before)] != p.Tag {
				t.Errorf("free %v: the pass %v has the tags %x, %d, and the ids %x, %d", free, p, tags, e, ids, f)
			}
			before = tags
		}
		if !caveat.Same(p.Caveats, l) {
			t.Errorf("free %v: the pass has the caveats %v", free, p.Caveats)
		}
	}
}

// P13.4: of all that somebody makes who was given a pass with two caveats, whatever is claimed of the pass, only what keeps both is a pass of the mint.
func TestCaveatsAreNotTakenAway(t *testing.T) {
	a, key, _ := algebra.Key(algebra.New(true, api.Tag{}))
	secret := api.Epoch{Number: 1, Key: key}
	given := []api.Caveat{zones(6), holder("bob")}
	elements := append(slices.Clone(given), rides(5))
	a, minted := mustMint(t, a, secret, 1)
	a, _ = mustMint(t, a, secret, 2)
	a, kept := mustAttenuate(t, a, minted, zones(6))
	a, p := mustAttenuate(t, a, kept, holder("bob"))
	a, _ = mustAttenuate(t, a, minted, rides(5), holder("bob"), zones(6))
	known := []api.Tag{p.Tag}
	for i := 0; i < len(known) && len(known) < 200; i++ {
		for n := range len(given) + 1 {
			for _, c := range elements {
				claimed := api.Pass{Epoch: 1, Serial: 1 + i%2, Caveats: given[:n], Tag: known[i]}
				var q api.Pass
				a, q = mustAttenuate(t, a, claimed, c)
				if !slices.Contains(known, q.Tag) {
					known = append(known, q.Tag)
				}
			}
		}
		var q api.Pass
		a, q = mustMint(t, a, api.Epoch{Number: 1, Key: known[i]}, 1)
		known = append(known, q.Tag)
	}
	passes := 0
	var extend func(l []api.Caveat)
	extend = func(l []api.Caveat) {
		for serial := 1; serial <= 2; serial++ {
			tags, e := chain.Tags(a, secret, serial, l)
			if e != api.OK || !slices.Contains(known, tags[len(tags)-1]) {
				continue
			}
			passes++
			if serial != 1 || len(l) < 2 || !caveat.Same(l[:2], given) {
				t.Errorf("the tag of the serial number %d with %v is known", serial, l)
			}
		}
		for i := 0; i < len(elements) && len(l) < 5; i++ {
			extend(append(slices.Clone(l), elements[i]))
		}
	}
	extend(nil)
	if passes != 1+3+9+27 {
		t.Errorf("%d passes of up to five caveats are known", passes)
	}
}

// R3: no function modifies its arguments, not even behind their ends, and no result shares memory with them, but for the entries of algebras.
func TestSharedMemory(t *testing.T) {
	for _, free := range kinds {
		a, p := mustMint(t, described{free: free}.algebra(), root, 1)
		a, p = mustAttenuate(t, a, p, third(1, "ticket", "box"), rides(5))
		p.Caveats = append(p.Caveats, rides(6), rides(7))[:2]
		p.Caveats[0].Ticket = append(p.Caveats[0].Ticket, "more"...)[:6]
		a.Macs = append(a.Macs, api.Mac{Tag: api.Tag{1}}, api.Mac{Tag: api.Tag{2}})[:len(a.Macs)]
		c := third(2, "another ticket", "another box")
		keptAlgebra, keptPass, keptCaveat := copied(a), p, copiedCaveats([]api.Caveat{c})
		keptPass.Caveats = copiedCaveats(p.Caveats[:4])

		b, q := mustAttenuate(t, a, p, c)
		keptB, keptQ := copied(b), q
		keptQ.Caveats = copiedCaveats(q.Caveats)
		_, other := mustAttenuate(t, a, p, c)
		mustAttenuate(t, a, p, holder("ann"))
		mustMint(t, a, root, 2)
		chain.Tags(a, root, 1, p.Caveats)
		if !same(a, keptAlgebra) || a.Macs[:len(a.Macs)+2][len(a.Macs)].Tag != (api.Tag{1}) || a.Macs[:len(a.Macs)+2][len(a.Macs)+1].Tag != (api.Tag{2}) {
			t.Errorf("free %v: the algebra was modified", free)
		}
		if !caveat.Same(p.Caveats[:4], keptPass.Caveats) || string(p.Caveats[0].Ticket[:10]) != "ticketmore" || !caveat.Same([]api.Caveat{c}, keptCaveat) {
			t.Errorf("free %v: the pass became %v, and the caveat %v", free, p, c)
		}
		if !same(b, keptB) {
			t.Errorf("free %v: the algebra of the new pass became %v", free, b)
		}

		for _, x := range append(p.Caveats, c) {
			clear(x.Ticket[:cap(x.Ticket)])
			clear(x.Box[:cap(x.Box)])
		}
		clear(p.Caveats[:4])
		if !samePass(q, keptQ) || !samePass(other, keptQ) || !same(b, keptB) {
			t.Errorf("free %v: the new pass became %v", free, q)
		}
		for _, x := range q.Caveats {
			clear(x.Ticket[:cap(x.Ticket)])
			if x.Third && len(x.Box) > 0 && x.Box[0] == 0 {
				t.Errorf("free %v: a ticket and a box share memory", free)
			}
			clear(x.Box[:cap(x.Box)])
		}
		clear(q.Caveats[:cap(q.Caveats)])
		if !samePass(other, keptQ) || !same(b, keptB) {
			t.Errorf("free %v: the other pass became %v", free, other)
		}
	}
}

// R3: what is looked up shares no memory with the arguments or with what is looked up later.
func TestSharedMemoryOfTags(t *testing.T) {
	for _, free := range kinds {
		a, p := mustMint(t, algebra.New(free, api.Tag{}), root, 1)
		a, p = mustAttenuate(t, a, p, rides(5), third(1, "ticket", "box"))
		kept := copiedCaveats(p.Caveats)
		before := copied(a)
		tags, _ := chain.Tags(a, root, 1, p.Caveats)
		again, _ := chain.Tags(a, root, 1, p.Caveats)
		ids, _ := chain.Nodes(a, tags)
		others, _ := chain.Nodes(a, tags)
		if !slices.Equal(tags, again) || !slices.Equal(ids, others) || len(tags) != 3 || len(ids) != 3 {
			t.Fatalf("free %v: %x, %x; %x, %x", free, tags, again, ids, others)
		}
		keptTags, keptIDs := slices.Clone(tags), slices.Clone(ids)
		clear(tags[:cap(tags)])
		clear(others[:cap(others)])
		if !slices.Equal(again, keptTags) || !slices.Equal(ids, keptIDs) || !same(a, before) || !caveat.Same(p.Caveats, kept) {
			t.Errorf("free %v: %x, %x, %v", free, again, ids, a)
		}
	}
}

// P13.2: nil and empty lists of caveats are equivalent.
func TestEmptyIsNil(t *testing.T) {
	a, p := mustMint(t, algebra.New(true, api.Tag{}), root, 1)
	q := p
	p.Caveats, q.Caveats = nil, []api.Caveat{}
	b, x, e := chain.Attenuate(a, p, rides(5))
	c, y, f := chain.Attenuate(a, q, api.Caveat{First: rides(5).First, Ticket: []byte{}, Box: []byte{}})
	if !same(b, c) || !samePass(x, y) || e != api.OK || f != api.OK {
		t.Errorf("%v, %d; %v, %d", x, e, y, f)
	}
	for _, l := range [][]api.Caveat{nil, {}} {
		if tags, e := chain.Tags(a, root, 1, l); !slices.Equal(tags, []api.Tag{p.Tag}) || e != api.OK {
			t.Errorf("%x, %d", tags, e)
		}
	}
}

// R3, R4: calls that run at the same time do not disturb each other.
func TestCallsAtTheSameTime(t *testing.T) {
	for _, free := range kinds {
		d := described{free: free}
		d, a, p := checkMint(t, d, d.algebra(), root, 1)
		d, a, p = checkAttenuate(t, d, a, p, third(1, "ticket", "box"))
		var all sync.WaitGroup
		for n := range 8 {
			all.Go(func() {
				for range 50 {
					want, wantPass, _ := d.attenuate(p, rides(n))
					b, q, e := chain.Attenuate(a, p, rides(n))
					wantTags, _ := want.tags(root, 1, q.Caveats)
					tags, f := chain.Tags(b, root, 1, q.Caveats)
					if !same(b, want.algebra()) || !samePass(q, wantPass) || e != api.OK || !slices.Equal(tags, wantTags) || f != api.OK {
						t.Errorf("free %v: %v, %d; %x, %d", free, q, e, tags, f)
						return
					}
				}
			})
		}
		all.Wait()
	}
}
