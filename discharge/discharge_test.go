package discharge_test

import (
	"encoding/hex"
	"math"
	"math/rand/v2"
	"slices"
	"strings"
	"sync"
	"testing"

	"macaroon/algebra"
	"macaroon/api"
	"macaroon/box"
	"macaroon/chain"
	"macaroon/discharge"
	"macaroon/holds"
	"macaroon/predicate"
	"macaroon/ticket"
)

const year = 525600

var (
	kinds  = []bool{false, true} // of algebras: computed, free
	office = api.Concession{Party: 2, Key: api.Tag{5}, Persons: []api.Person{
		{Name: "ann", Born: -70 * year}, {Name: "bob", Born: -30 * year}, {Name: "cid", Born: 10}, {Name: "ann", Born: 0},
		{Name: strings.Repeat("z", 16), Born: -70 * year}, {Name: "Eve", Born: -70 * year}, {Name: "", Born: -70 * year}, {Name: "dan", Born: math.MinInt},
	}}
	old = api.Terms{Least: 60, Most: 150}
	all = api.Terms{Most: 150}
)

func holder(name string) api.Predicate { return api.Predicate{Kind: api.PredHolder, Name: name} }

func rides(n int) api.Predicate { return api.Predicate{Kind: api.PredRides, Number: n} }

func times(from, to int) api.Predicate {
	return api.Predicate{Kind: api.PredTime, From: from, To: to}
}

// conditions are predicates of all kinds that may be conditions, with their encodings.
var conditions = []struct {
	p       api.Predicate
	encoded string
}{
	{api.Predicate{Kind: api.PredZone, Mask: 6}, "\x01\x00\x00\x00\x00\x00\x00\x00\x06"},
	{api.Predicate{Kind: api.PredLine, Mask: 1 << 31}, "\x02\x00\x00\x00\x00\x80\x00\x00\x00"},
	{api.Predicate{Kind: api.PredDays, Mask: 65}, "\x03\x00\x00\x00\x00\x00\x00\x00\x41"},
	{times(100, 300), "\x04\x64\xac\x02"},
	{api.Predicate{Kind: api.PredDaily, From: 1380, To: 300}, "\x05\xe4\x0a\xac\x02"},
	{holder("bob"), "\x06\x03bob"},
}

// wrongConditions are predicates that are not valid.
var wrongConditions = []api.Predicate{
	{}, {Kind: 8}, {Kind: -1}, {Kind: math.MaxInt}, {Kind: api.PredZone}, {Kind: api.PredLine, Mask: 1 << 32}, {Kind: api.PredDays, Mask: 128}, times(5, 4), times(0, api.MaxMinute+1),
	{Kind: api.PredDaily, To: 1440}, holder(""), holder("Bob"), holder(strings.Repeat("a", 17)), {Kind: api.PredHolder, Name: "bob", Number: 1}, rides(-1), rides(api.MaxRides + 1), {Kind: api.PredRides, Mask: 1},
}

// text returns n bytes that differ from their neighbours.
func text(n int) []byte {
	b := make([]byte, n)
	for i := range b {
		b[i] = byte(i*7 + i/256)
	}
	return b
}

// started returns an algebra with a few entries that are nothing to discharges.
func started(free bool) api.Algebra {
	a, _, _ := made(api.Algebra{Free: free, Seed: api.Tag{3}, Fresh: 7}, api.Tag{9}, "mint\x01", "node")
	a, _, _ = box.Seal(a, api.Tag{8}, 5, []byte("plain"))
	return a
}

// withTicket returns an algebra with an empty ticket.
func withTicket(t *testing.T, a api.Algebra, c api.Concession, terms api.Terms) (api.Algebra, api.Blank) {
	t.Helper()
	a, b, e := ticket.Blank(a, c, terms)
	if e != api.OK {
		t.Fatalf("Blank for %v: %d", terms, e)
	}
	return a, b
}

// checkGrant compares Grant with what is described, and returns what follows.
func checkGrant(t *testing.T, a api.Algebra, c api.Concession, x []byte, holder string, minute int) (api.Algebra, api.Discharge, api.Errno) {
	t.Helper()
	want, wantDischarge, wantErr := grant(a, c, x, holder, minute)
	b, d, e := discharge.Grant(a, c, x, holder, minute)
	if !same(b, want) || !sameDischarge(d, wantDischarge) || e != wantErr {
		t.Fatalf("free %v: Grant for %q at %d: %v, %d tags, %d, want %v, %d tags, %d", a.Free, holder, minute, d, len(b.Macs), e, wantDischarge, len(want.Macs), wantErr)
	}
	return b, d, e
}

// checkRestrict compares Restrict with what is described, and returns what follows.
func checkRestrict(t *testing.T, a api.Algebra, d api.Discharge, p api.Predicate) (api.Algebra, api.Discharge, api.Errno) {
	t.Helper()
	want, wantDischarge, wantErr := restrict(a, d, p)
	b, x, e := discharge.Restrict(a, d, p)
	if !same(b, want) || !sameDischarge(x, wantDischarge) || e != wantErr {
		t.Fatalf("free %v: Restrict of %.90v with %v: %.90v, %d tags, %d, want %.90v, %d tags, %d", a.Free, d, p, x, len(b.Macs), e, wantDischarge, len(want.Macs), wantErr)
	}
	return b, x, e
}

// checkBind compares Bind with what is described, and returns what follows.
func checkBind(t *testing.T, a api.Algebra, d api.Discharge, leaf api.Tag, r api.Request) (api.Algebra, api.Bound, api.Errno) {
	t.Helper()
	want, wantBound, wantErr := bind(a, d, leaf, r)
	b, x, e := discharge.Bind(a, d, leaf, r)
	if !same(b, want) || !sameBound(x, wantBound) || e != wantErr {
		t.Fatalf("free %v: Bind of %.90v for %v: %.90v, %d tags, %d, want %.90v, %d tags, %d", a.Free, d, r, x, len(b.Macs), e, wantBound, len(want.Macs), wantErr)
	}
	return b, x, e
}

// checkTag compares Tag with what is described.
func checkTag(t *testing.T, a api.Algebra, key api.Tag, x []byte, l []api.Predicate) (api.Tag, bool) {
	t.Helper()
	want, wantOK := tagOf(a, key, x, l)
	tag, ok := discharge.Tag(a, key, x, l)
	if tag != want || ok != wantOK {
		t.Fatalf("free %v: Tag of %.90x with %.90v: %x, %v, want %x, %v", a.Free, x, l, tag, ok, want, wantOK)
	}
	return tag, ok
}

// checkProof compares Proof with what is described.
func checkProof(t *testing.T, a api.Algebra, tag, leaf api.Tag, r api.Request) (api.Tag, bool) {
	t.Helper()
	want, wantOK := proofOf(a, tag, leaf, r)
	proof, ok := discharge.Proof(a, tag, leaf, r)
	if proof != want || ok != wantOK {
		t.Fatalf("free %v: Proof under %x of %x for %v: %x, %v, want %x, %v", a.Free, tag, leaf, r, proof, ok, want, wantOK)
	}
	return proof, ok
}

// mustGrant, mustRestrict and mustBind return what follows a.
func mustGrant(t *testing.T, a api.Algebra, c api.Concession, x []byte, holder string) (api.Algebra, api.Discharge) {
	t.Helper()
	a, d, e := discharge.Grant(a, c, x, holder, 0)
	if e != api.OK {
		t.Fatalf("Grant for %q: %d", holder, e)
	}
	return a, d
}

func mustRestrict(t *testing.T, a api.Algebra, d api.Discharge, l ...api.Predicate) (api.Algebra, api.Discharge) {
	t.Helper()
	for _, p := range l {
		var e api.Errno
		if a, d, e = discharge.Restrict(a, d, p); e != api.OK {
			t.Fatalf("Restrict with %v: %d", p, e)
		}
	}
	return a, d
}

func mustBind(t *testing.T, a api.Algebra, d api.Discharge, leaf api.Tag, r api.Request) (api.Algebra, api.Bound) {
	t.Helper()
	a, b, e := discharge.Bind(a, d, leaf, r)
	if e != api.OK {
		t.Fatalf("Bind for %v: %d", r, e)
	}
	return a, b
}

// P15.1: ages written out.
func TestAgeWrittenOut(t *testing.T) {
	for _, x := range []struct{ born, minute, want int }{
		{0, 0, 0}, {0, year - 1, 0}, {0, year, 1}, {0, year + 1, 1}, {0, 2*year - 1, 1}, {0, 2 * year, 2}, {0, api.MaxMinute, 127},
		{1, year, 0}, {1, year + 1, 1}, {-1, year - 1, 1}, {-1, year - 2, 0}, {-1, 0, 0}, {-year, 0, 1}, {1 - year, 0, 0}, {-70 * year, 0, 70}, {1 - 70*year, 0, 69},
		{1, 0, 0}, {5, 4, 0}, {year, 0, 0}, {year - 1, 0, 0}, {api.MaxMinute, 0, 0}, {api.MaxMinute, api.MaxMinute, 0}, {api.MaxMinute - year, api.MaxMinute, 1},
		{-api.MaxMinute, 0, 127}, {-100 * year, 50 * year, 150}, {1 - 100*year, 50 * year, 149}, {-100 * year, 51 * year, 150}, {-api.MaxMinute, api.MaxMinute, 150},
		{-api.MaxMinute, -1, 0}, {-api.MaxMinute, api.MaxMinute + 1, 0}, {-api.MaxMinute - 1, api.MaxMinute, 0}, {api.MaxMinute + 1, api.MaxMinute, 0},
		{math.MinInt, 0, 0}, {math.MinInt, math.MaxInt, 0}, {math.MaxInt, 0, 0}, {-70 * year, math.MaxInt, 0}, {-70 * year, math.MinInt, 0}, {math.MaxInt, math.MinInt, 0},
	} {
		if got := discharge.Age(api.Person{Name: "ann", Born: x.born}, x.minute); got != x.want {
			t.Errorf("the age of a person who was born at %d, at %d: %d, want %d", x.born, x.minute, got, x.want)
		}
	}
}

// P15.1: all ages, at minutes and births around each birthday and each limit, whatever the name is.
func TestAges(t *testing.T) {
	var minutes []int
	for n := -160; n <= 160; n += 7 {
		minutes = append(minutes, n*year, n*year+1000)
	}
	for _, n := range []int{0, api.MaxMinute, -api.MaxMinute, 1 << 32, -1 << 32, math.MaxInt, math.MinInt} {
		minutes = append(minutes, n-1, n, n+1)
	}
	for _, minute := range minutes {
		births := slices.Clone(minutes)
		for age := -2; age < 155; age++ {
			births = append(births, minute-age*year-1, minute-age*year, minute-age*year+1)
		}
		for i, born := range births {
			p := api.Person{Name: []string{"", "ann", "Not a name"}[i%3], Born: born}
			if got, want := discharge.Age(p, minute), ageOf(p, minute); got != want {
				t.Fatalf("the age of a person who was born at %d, at %d: %d, want %d", born, minute, got, want)
			}
		}
	}
}

// P15.1: the first person with the name, with this name only.
func TestFind(t *testing.T) {
	for name, want := range map[string]int{"ann": 0, "bob": 1, "cid": 2, strings.Repeat("z", 16): 4, "Eve": 5, "": 6, "dan": 7} {
		p, ok := discharge.Find(office, name)
		if p != office.Persons[want] || !ok {
			t.Errorf("Find of %q: %v, %v, want %v", name, p, ok, office.Persons[want])
		}
	}
	for _, name := range []string{"an", "anna", "Ann", "ANN", " ann", "ann ", "ann\x00", "eve", "zed", strings.Repeat("z", 15), strings.Repeat("z", 17), "annbob"} {
		if p, ok := discharge.Find(office, name); p != (api.Person{}) || ok {
			t.Errorf("Find of %q: %v, %v", name, p, ok)
		}
	}
	for _, none := range [][]api.Person{nil, {}} {
		if p, ok := discharge.Find(api.Concession{Persons: none}, ""); p != (api.Person{}) || ok {
			t.Errorf("Find in no persons: %v, %v", p, ok)
		}
	}
}

// P15.1: lists by lot, in which names and births occur more than once.
func TestFindByLot(t *testing.T) {
	lot := rand.New(rand.NewPCG(15, 1))
	somebody := func() string { return []string{"", "a", "b", "aa", "ab"}[lot.IntN(5)] }
	for range 3000 {
		var c api.Concession
		for range lot.IntN(6) {
			c.Persons = append(c.Persons, api.Person{Name: somebody(), Born: lot.IntN(3) - 1})
		}
		name := somebody()
		want, wantOK := person(c, name)
		if p, ok := discharge.Find(c, name); p != want || ok != wantOK {
			t.Fatalf("Find of %q in %v: %v, %v, want %v, %v", name, c.Persons, p, ok, want, wantOK)
		}
	}
}

// P15.2, P15.3: discharges of a free algebra with all their entries written out.
func TestFreeDischargesWrittenOut(t *testing.T) {
	a, b := withTicket(t, algebra.New(true, api.Tag{1}), office, old)
	before := copied(a)
	leaf, other := api.Tag{31: 7}, api.Tag{1, 2, 3}
	a, ann := mustGrant(t, a, office, b.Ticket, "ann")
	a, zed := mustGrant(t, a, office, b.Ticket, strings.Repeat("z", 16))
	a, narrow := mustRestrict(t, a, ann, times(100, 300))
	a, twice := mustRestrict(t, a, narrow, times(100, 300))
	a, proof := mustBind(t, a, narrow, leaf, api.Request{Gate: 7, Nonce: 300})
	a, second := mustBind(t, a, ann, other, api.Request{Nonce: 1 << 48})
	a, again := mustGrant(t, a, office, b.Ticket, "ann")
	a, once := mustRestrict(t, a, again, times(100, 300))
	a, proofAgain := mustBind(t, a, once, leaf, api.Request{Gate: 7, Nonce: 300})

	want := before
	for i, x := range []struct {
		key     api.Tag
		message string
	}{
		{symbol("k", 1), "grant" + string(b.Ticket)}, {symbol("m", 1), "condition\x06\x03ann"},
		{symbol("m", 1), "condition\x06\x10zzzzzzzzzzzzzzzz"},
		{symbol("m", 2), "condition\x04\x64\xac\x02"}, {symbol("m", 4), "condition\x04\x64\xac\x02"},
		{symbol("m", 4), "bind" + strings.Repeat("\x00", 31) + "\x07\x07\xac\x02"},
		{symbol("m", 2), "bind\x01\x02\x03" + strings.Repeat("\x00", 29) + "\x00\x80\x80\x80\x80\x80\x80\x40"},
	} {
		want.Macs = append(want.Macs, api.Mac{Key: x.key, Message: []byte(x.message), Tag: symbol("m", i+1)})
	}
	if !same(a, want) {
		t.Errorf("the algebra is %v, want %v", a, want)
	}
	for i, x := range []struct {
		got  api.Discharge
		tag  int
		want []api.Predicate
	}{
		{ann, 2, []api.Predicate{holder("ann")}}, {again, 2, []api.Predicate{holder("ann")}}, {zed, 3, []api.Predicate{holder("zzzzzzzzzzzzzzzz")}},
		{narrow, 4, []api.Predicate{holder("ann"), times(100, 300)}}, {once, 4, []api.Predicate{holder("ann"), times(100, 300)}},
		{twice, 5, []api.Predicate{holder("ann"), times(100, 300), times(100, 300)}},
	} {
		if want := (api.Discharge{Ticket: b.Ticket, Conditions: x.want, Tag: symbol("m", x.tag)}); !sameDischarge(x.got, want) {
			t.Errorf("the discharge %d is %v, want %v", i, x.got, want)
		}
	}
	for i, x := range []struct {
		got  api.Bound
		tag  int
		want []api.Predicate
	}{
		{proof, 6, narrow.Conditions}, {proofAgain, 6, narrow.Conditions}, {second, 7, ann.Conditions},
	} {
		if want := (api.Bound{Ticket: b.Ticket, Conditions: x.want, Proof: symbol("m", x.tag)}); !sameBound(x.got, want) {
			t.Errorf("the bound discharge %d is %v, want %v", i, x.got, want)
		}
	}
}

// P15.2 to P15.4: a computed discharge, as another program has computed it. It is looked up in an algebra without entries.
func TestComputedDischargeWrittenOut(t *testing.T) {
	a, b := withTicket(t, algebra.New(false, api.Tag{1}), office, old)
	a, d := mustGrant(t, a, office, b.Ticket, "ann")
	a, x := mustRestrict(t, a, d, times(100, api.MaxMinute))
	leaf := api.Tag{}
	for i := range leaf {
		leaf[i] = byte(i)
	}
	a, first := mustBind(t, a, x, leaf, api.Request{Gate: 7, Nonce: 1 << 48})
	a, second := mustBind(t, a, d, leaf, api.Request{Nonce: 1})
	none := algebra.New(false, api.Tag{})
	granted, ok1 := discharge.Tag(none, b.Key, b.Ticket, nil)
	tag, ok2 := discharge.Tag(none, b.Key, b.Ticket, x.Conditions)
	proof, ok3 := discharge.Proof(none, tag, leaf, api.Request{Gate: 7, Nonce: 1 << 48})
	if !ok1 || !ok2 || !ok3 || len(a.Macs) != 5 {
		t.Fatalf("%v, %v, %v, %d tags", ok1, ok2, ok3, len(a.Macs))
	}
	for i, y := range []struct {
		want string
		got  []api.Tag
	}{
		{"8d135d6bd42963bf83c2d56ac0745cf2b7a4313bef1fa651b8dd15d5202cac59", []api.Tag{b.Key}},
		{"ed2c475664a48812b15adec85018b5a1d51ce14e2c27ec18fe4f8b4fafbbc586", []api.Tag{granted, a.Macs[0].Tag}},
		{"4bdb226feb16a5d336b35b09b93c46cfdbe46877c0a727de98163aee9c5a454c", []api.Tag{d.Tag, a.Macs[1].Tag}},
		{"5eb963a39505d27b95558714d3f65433082baf16df476a1ad7e712e933e3621d", []api.Tag{x.Tag, tag, a.Macs[2].Tag}},
		{"295f630c7fa64df2a735e82ed99993ffadfdec49e781cc821f028aa0863d9786", []api.Tag{first.Proof, proof, a.Macs[3].Tag}},
		{"e27c97c5eb1a021e211d02e42aee645765c15e1356ecaaa4ac6e632e826ea9c9", []api.Tag{second.Proof, a.Macs[4].Tag}},
	} {
		for _, tag := range y.got {
			if hex.EncodeToString(tag[:]) != y.want {
				t.Errorf("the tag %d is %x, want %s", i, tag, y.want)
			}
		}
	}
}

// P15.2: the document's example: Ann, who is 70, gets a concession for holders from 60 years on, and Cid, who is 30, does not.
func TestAnnAndCid(t *testing.T) {
	c := api.Concession{Key: api.Tag{5}, Persons: []api.Person{{Name: "ann", Born: 1000 - 70*year}, {Name: "cid", Born: 1000 - 30*year}}}
	for _, free := range kinds {
		a, b := withTicket(t, algebra.New(free, api.Tag{}), c, old)
		if _, d, e := checkGrant(t, a, c, b.Ticket, "ann", 1000); len(d.Conditions) != 1 || e != api.OK {
			t.Errorf("free %v: Ann: %v, %d", free, d, e)
		}
		if _, d, e := checkGrant(t, a, c, b.Ticket, "cid", 1000); !sameDischarge(d, api.Discharge{}) || e != api.ErrRefused {
			t.Errorf("free %v: Cid: %v, %d", free, d, e)
		}
	}
}

// P15.2: persons of all ages and terms around them: who gets a discharge.
func TestAgesAndTerms(t *testing.T) {
	for _, free := range kinds {
		for age := range 151 {
			c := api.Concession{Key: api.Tag{5}, Persons: []api.Person{{Name: "ann", Born: -100 * year}}}
			minute := (age - 100) * year
			if minute < 0 {
				c.Persons[0].Born, minute = -age*year, 0
			}
			for _, terms := range []api.Terms{all, {}, {Least: 150, Most: 150}, {Least: age, Most: age}, {Least: age, Most: 150}, {Most: age}, {Least: age + 1, Most: 150}, {Least: age + 1, Most: age + 1}, {Most: age - 1}, {Least: age - 1, Most: age - 1}} {
				if !ticket.Valid(terms) {
					continue
				}
				a, b := withTicket(t, algebra.New(free, api.Tag{}), c, terms)
				want := api.OK
				if age < terms.Least || age > terms.Most {
					want = api.ErrRefused
				}
				if _, _, e := checkGrant(t, a, c, b.Ticket, "ann", minute); e != want {
					t.Errorf("free %v: at %d years, the terms %v: %d, want %d", free, age, terms, e, want)
				}
			}
		}
	}
}

// P15.2: the day before a birthday and the birthday, and births out of their range, which make the age 0.
func TestBirthdays(t *testing.T) {
	for _, free := range kinds {
		for _, x := range []struct {
			terms        api.Terms
			born, minute int
			want         api.Errno
		}{
			{api.Terms{Least: 60, Most: 60}, 0, 60*year - 1, api.ErrRefused}, {api.Terms{Least: 60, Most: 60}, 0, 60 * year, api.OK},
			{api.Terms{Least: 60, Most: 60}, 0, 61*year - 1, api.OK}, {api.Terms{Least: 60, Most: 60}, 0, 61 * year, api.ErrRefused},
			{api.Terms{}, 5, 0, api.OK}, {api.Terms{}, api.MaxMinute + 1, 0, api.OK}, {api.Terms{}, -api.MaxMinute - 1, 0, api.OK}, {api.Terms{}, math.MinInt, api.MaxMinute, api.OK},
			{old, -api.MaxMinute, 0, api.OK}, {old, -api.MaxMinute - 1, 0, api.ErrRefused}, {old, math.MinInt, 0, api.ErrRefused}, {old, math.MaxInt, 0, api.ErrRefused},
			{api.Terms{Least: 150, Most: 150}, -api.MaxMinute, api.MaxMinute, api.OK}, {api.Terms{Most: 149}, -api.MaxMinute, api.MaxMinute, api.ErrRefused},
		} {
			c := api.Concession{Key: api.Tag{5}, Persons: []api.Person{{Name: "ann", Born: x.born}}}
			a, b := withTicket(t, started(free), c, x.terms)
			if _, _, e := checkGrant(t, a, c, b.Ticket, "ann", x.minute); e != x.want {
				t.Errorf("free %v: born at %d, at %d, the terms %v: %d, want %d", free, x.born, x.minute, x.terms, e, x.want)
			}
		}
	}
}

// P15.2: which error of Grant is the first one, where more than one applies.
func TestErrorsOfGrant(t *testing.T) {
	other := office
	other.Key = api.Tag{6}
	for _, free := range kinds {
		a, b := withTicket(t, started(free), office, old)
		a, wrong, _ := box.Seal(a, office.Key, 1, []byte("not a ticket"))
		full := a
		full.Macs = slices.Concat(a.Macs, make([]api.Mac, api.MaxEntries-len(a.Macs)))
		for _, x := range []struct {
			what   string
			a      api.Algebra
			c      api.Concession
			ticket []byte
			holder string
			minute int
			want   api.Errno
		}{
			{"nothing is wrong", a, office, b.Ticket, "ann", 0, api.OK},
			{"nothing is wrong with the longest name", a, office, b.Ticket, strings.Repeat("z", 16), 0, api.OK},
			{"a name with a capital", full, other, nil, "Eve", -1, api.ErrName},
			{"no name", full, other, nil, "", -1, api.ErrName},
			{"a name that is too long", full, other, nil, strings.Repeat("z", 17), api.MaxMinute + 1, api.ErrName},
			{"a name with another byte", full, other, nil, "ann\x00", math.MinInt, api.ErrName},
			{"a name that the authority knows", a, office, b.Ticket, "Eve", 0, api.ErrName},
			{"a name of letters that are not ASCII", a, office, b.Ticket, "änn", 0, api.ErrName},
			{"a minute before the first one", full, other, nil, "eve", -1, api.ErrRange},
			{"a minute behind the last one", full, other, nil, "eve", api.MaxMinute + 1, api.ErrRange},
			{"the minute alone", a, office, b.Ticket, "ann", math.MaxInt, api.ErrRange},
			{"a ticket of another authority", full, other, b.Ticket, "eve", 0, api.ErrSeal},
			{"no ticket", full, office, nil, "eve", 0, api.ErrSeal},
			{"a ticket that is cut off", full, office, b.Ticket[:len(b.Ticket)-1], "bob", 0, api.ErrSeal},
			{"a box that is no ticket", full, office, wrong, "eve", 0, api.ErrForm},
			{"a person whom nobody knows", full, office, b.Ticket, "eve", 0, api.ErrUnknown},
			{"a person who is too young", full, office, b.Ticket, "bob", 0, api.ErrRefused},
			{"a person who is not born yet", full, office, b.Ticket, "cid", 0, api.ErrRefused},
			{"a full algebra", full, office, b.Ticket, "ann", 0, api.ErrLimit},
			{"the last minute", a, office, b.Ticket, "bob", api.MaxMinute, api.OK},
			{"a year too early", a, office, b.Ticket, "bob", 30*year - 1, api.ErrRefused},
		} {
			if _, _, e := checkGrant(t, x.a, x.c, x.ticket, x.holder, x.minute); e != x.want {
				t.Errorf("free %v: %s: %d, want %d", free, x.what, e, x.want)
			}
		}
	}
}

// P15.2: the number of the authority is nothing to Grant, and neither are the persons behind the first one with the name.
func TestFieldsOfAuthorities(t *testing.T) {
	for _, free := range kinds {
		a, b := withTicket(t, started(free), office, old)
		_, want := mustGrant(t, a, office, b.Ticket, "ann")
		for _, party := range []int{math.MinInt, -1, 0, 8, math.MaxInt} {
			c := api.Concession{Party: party, Key: office.Key, Persons: office.Persons[:1]}
			if _, d, e := checkGrant(t, a, c, b.Ticket, "ann", 0); !sameDischarge(d, want) || e != api.OK {
				t.Errorf("free %v: the party %d: %v, %d", free, party, d, e)
			}
		}
		c := office
		c.Persons = office.Persons[2:]
		if _, _, e := checkGrant(t, a, c, b.Ticket, "ann", 0); e != api.ErrRefused {
			t.Errorf("free %v: the second person with the name: %d", free, e)
		}
	}
}

// P15.2: further conditions of all kinds, each with the message written out.
func TestMessagesOfConditions(t *testing.T) {
	for _, free := range kinds {
		for _, x := range conditions {
			a := started(free)
			d := api.Discharge{Ticket: []byte("t"), Conditions: []api.Predicate{holder("ann")}, Tag: api.Tag{4}}
			b, y, e := checkRestrict(t, a, d, x.p)
			if e != api.OK || len(b.Macs) != len(a.Macs)+1 || !slices.Equal(y.Conditions, []api.Predicate{holder("ann"), x.p}) || string(y.Ticket) != "t" {
				t.Fatalf("free %v: Restrict with %v: %v, %d", free, x.p, y, e)
			}
			if m := b.Macs[len(a.Macs)]; m.Key != d.Tag || string(m.Message) != "condition"+x.encoded || m.Tag != y.Tag {
				t.Errorf("free %v: the entry of %v is %v", free, x.p, m)
			}
		}
	}
}

// P15.2: the errors of Restrict, with discharges of all sizes, in their order.
func TestErrorsOfRestrict(t *testing.T) {
	for _, free := range kinds {
		a := started(free)
		full := a
		full.Macs = make([]api.Mac, api.MaxEntries)
		for n := range 12 {
			d := api.Discharge{Ticket: text(75), Conditions: slices.Repeat([]api.Predicate{holder("ann")}, n), Tag: api.Tag{4}}
			for _, p := range wrongConditions {
				for _, algebra := range []api.Algebra{a, full} {
					if _, _, e := checkRestrict(t, algebra, d, p); e != api.ErrForm {
						t.Errorf("free %v: %d conditions, and %v: %d", free, n, p, e)
					}
				}
			}
			for _, number := range []int{0, 1, 5, api.MaxRides} {
				for _, algebra := range []api.Algebra{a, full} {
					if _, _, e := checkRestrict(t, algebra, d, rides(number)); e != api.ErrKind {
						t.Errorf("free %v: %d conditions, and %d rides: %d", free, n, number, e)
					}
				}
			}
			for _, x := range conditions {
				want := api.OK
				if n >= 8 {
					want = api.ErrLimit
				}
				if _, _, e := checkRestrict(t, a, d, x.p); e != want {
					t.Errorf("free %v: %d conditions, and %v: %d, want %d", free, n, x.p, e, want)
				}
				if _, _, e := checkRestrict(t, full, d, x.p); e != api.ErrLimit {
					t.Errorf("free %v: %d conditions, and a full algebra: %d", free, n, e)
				}
			}
		}
	}
}

// P15.2, P15.3: Restrict and Bind take a discharge as it is, whether somebody granted it or not.
func TestDischargesThatNobodyGranted(t *testing.T) {
	for _, free := range kinds {
		a := started(free)
		for _, d := range []api.Discharge{{}, {Ticket: text(5000), Conditions: wrongConditions[:7], Tag: api.Tag{31: 1}}, {Ticket: []byte{}, Conditions: []api.Predicate{rides(5), {}}, Tag: symbol("m", 1)}} {
			var e, f api.Errno
			a, _, e = checkRestrict(t, a, d, times(0, 5))
			a, _, f = checkBind(t, a, d, api.Tag{7}, api.Request{Gate: 1, Nonce: 2})
			if e != api.OK || f != api.OK {
				t.Errorf("free %v: %v: %d, %d", free, d, e, f)
			}
		}
		many := api.Discharge{Conditions: slices.Repeat([]api.Predicate{holder("ann")}, 100)}
		if _, x, e := checkBind(t, a, many, api.Tag{7}, api.Request{Gate: 1, Nonce: 2}); len(x.Conditions) != 100 || e != api.OK {
			t.Errorf("free %v: Bind with 100 conditions: %d", free, e)
		}
	}
}

// P15.2, P15.3: ErrLimit if there is no room for all entries; entries that are there already need none.
func TestFullAlgebras(t *testing.T) {
	for _, free := range kinds {
		a, b := withTicket(t, algebra.New(free, api.Tag{3}), office, old)
		withAll, d := mustGrant(t, a, office, b.Ticket, "ann")
		withAll, x := mustRestrict(t, withAll, d, times(1, 2))
		withAll, _ = mustBind(t, withAll, x, api.Tag{7}, api.Request{Nonce: 1})
		for size := api.MaxEntries - 3; size <= api.MaxEntries; size++ {
			for existing := range len(withAll.Macs) + 1 {
				a.Macs = make([]api.Mac, size)
				copy(a.Macs[100:], withAll.Macs[:existing])
				_, _, e := checkGrant(t, a, office, b.Ticket, "ann", 0)
				_, _, f := checkRestrict(t, a, d, times(1, 2))
				_, _, g := checkBind(t, a, x, api.Tag{7}, api.Request{Nonce: 1})
				room := api.MaxEntries - size
				if (e == api.OK) != (max(2-existing, 0) <= room) || (f == api.OK) != (existing > 2 || room > 0) || (g == api.OK) != (existing > 3 || room > 0) {
					t.Errorf("free %v: %d tags, %d of the discharge: %d, %d, %d", free, size, existing, e, f, g)
				}
				for _, errno := range []api.Errno{e, f, g} {
					if errno != api.OK && errno != api.ErrLimit {
						t.Errorf("free %v: %d tags, %d of the discharge: %d", free, size, existing, errno)
					}
				}
			}
		}
	}
}

// P15.3: gates and nonces inside and outside their ranges, also in a full algebra, with the messages written out.
func TestRequests(t *testing.T) {
	nonces := map[int]string{
		math.MinInt: "", -1 << 48: "", -1: "", 0: "", 1: "\x01", 2: "\x02", 127: "\x7f", 128: "\x80\x01", 300: "\xac\x02", 16384: "\x80\x80\x01", 1 << 32: "\x80\x80\x80\x80\x10",
		1<<48 - 1: "\xff\xff\xff\xff\xff\xff\x3f", 1 << 48: "\x80\x80\x80\x80\x80\x80\x40", 1<<48 + 1: "", math.MaxInt: "",
	}
	for _, free := range kinds {
		a := started(free)
		full := a
		full.Macs = make([]api.Mac, api.MaxEntries)
		d := api.Discharge{Ticket: text(75), Conditions: []api.Predicate{holder("ann")}, Tag: api.Tag{4}}
		for _, gate := range []int{math.MinInt, -256, -8, -1, 0, 1, 2, 3, 4, 5, 6, 7, 8, 9, 128, 256, 1 << 32, math.MaxInt} {
			for nonce, encoded := range nonces {
				leaf, r := api.Tag{1, 31: byte(gate)}, api.Request{Gate: gate, Nonce: nonce}
				b, x, e := checkBind(t, a, d, leaf, r)
				_, _, f := checkBind(t, full, d, leaf, r)
				if gate < 0 || gate > 7 || encoded == "" {
					if e != api.ErrRange || f != api.ErrRange {
						t.Errorf("free %v: Bind for %v: %d, in a full algebra: %d", free, r, e, f)
					}
					for _, y := range []api.Algebra{a, full} {
						if _, ok := checkProof(t, y, d.Tag, leaf, r); ok {
							t.Errorf("free %v: there is a proof for %v", free, r)
						}
					}
					continue
				}
				message := "bind" + string(leaf[:]) + string([]byte{byte(gate)}) + encoded
				if m := b.Macs[len(b.Macs)-1]; e != api.OK || f != api.ErrLimit || m.Key != d.Tag || string(m.Message) != message || m.Tag != x.Proof {
					t.Errorf("free %v: Bind for %v: %d, in a full algebra: %d, the entry %v", free, r, e, f, m)
				}
				if proof, ok := checkProof(t, b, d.Tag, leaf, r); proof != x.Proof || !ok {
					t.Errorf("free %v: the proof for %v is %x, %v", free, r, proof, ok)
				}
				if _, ok := checkProof(t, a, d.Tag, leaf, r); ok == free {
					t.Errorf("free %v: before Bind, the proof for %v is found: %v", free, r, ok)
				}
			}
		}
	}
}

// P15.4: nothing is found for conditions and requests that may not be, even if somebody made their tags.
func TestTagsThatMayNotBe(t *testing.T) {
	key, leaf, zeros := api.Tag{4}, api.Tag{}, strings.Repeat("\x00", 32)
	wrong := []struct {
		p       api.Predicate
		encoded string
	}{
		{rides(5), "\x07\x05"}, {rides(0), "\x07\x00"}, {api.Predicate{}, ""}, {api.Predicate{}, "\x00"}, {api.Predicate{Kind: 8}, "\x08"}, {api.Predicate{Kind: 1}, "\x01\x00\x00\x00\x00\x00\x00\x00\x00"},
		{times(5, 4), "\x04\x05\x04"}, {holder("Bob"), "\x06\x03Bob"}, {holder(""), "\x06\x00"}, {rides(1000001), "\x07\xc1\x84\x3d"},
	}
	for _, free := range kinds {
		a, granted, _ := made(started(free), key, "grant"+"t")
		for _, x := range wrong {
			a, _, _ = made(a, granted, "condition"+x.encoded)
			a, _, _ = made(a, granted, "condition"+x.encoded, "condition\x06\x03ann")
			a, _, _ = made(a, granted, "condition\x06\x03ann", "condition"+x.encoded)
		}
		for _, end := range []string{"\x08\x01", "\x00\x00", "\x01\x00", "\x00\x81\x80\x80\x80\x80\x80\x40"} {
			a, _, _ = made(a, key, "bind"+zeros+end)
		}
		for _, x := range wrong {
			for _, l := range [][]api.Predicate{{x.p}, {x.p, holder("ann")}, {holder("ann"), x.p}} {
				if _, ok := checkTag(t, a, key, []byte("t"), l); ok {
					t.Errorf("free %v: there is a tag with %v", free, l)
				}
			}
		}
		for _, r := range []api.Request{{Gate: 8, Nonce: 1}, {}, {Gate: 1}, {Nonce: 1<<48 + 1}} {
			if _, ok := checkProof(t, a, key, leaf, r); ok {
				t.Errorf("free %v: there is a proof for %v", free, r)
			}
		}
		if _, ok := checkTag(t, a, key, []byte("t"), []api.Predicate{holder("ann")}); !ok {
			t.Errorf("free %v: the tag with a condition is not found", free)
		}
		if granted, ok := checkTag(t, a, key, []byte("t"), nil); granted == (api.Tag{}) || !ok {
			t.Errorf("free %v: the tag without conditions is not found", free)
		}
	}
}

// P15.4: all lists of up to four of six predicates, where the tags of some were made; under right and wrong keys, for right and wrong tickets.
func TestTagsOfLists(t *testing.T) {
	few := []api.Predicate{holder("ann"), holder("bob"), times(1, 2), {Kind: api.PredZone, Mask: 1}, rides(1), {}}
	for _, free := range kinds {
		a, b := withTicket(t, started(free), office, all)
		a, ann := mustGrant(t, a, office, b.Ticket, "ann")
		a, bob := mustGrant(t, a, office, b.Ticket, "bob")
		a, _ = mustRestrict(t, a, ann, times(1, 2), few[3], few[3])
		a, _ = mustRestrict(t, a, ann, few[3], times(1, 2))
		a, _ = mustRestrict(t, a, bob, times(1, 2), holder("ann"))
		before := copied(a)
		tags, lists := 0, [][]api.Predicate{nil}
		for i := 0; i < len(lists); i++ {
			if _, ok := checkTag(t, a, b.Key, b.Ticket, lists[i]); ok {
				tags++
			}
			for _, key := range []api.Tag{{}, ann.Tag, office.Key} {
				checkTag(t, a, key, b.Ticket, lists[i])
			}
			for _, x := range [][]byte{nil, b.Ticket[1:], append(slices.Clone(b.Ticket), 0)} {
				checkTag(t, a, b.Key, x, lists[i])
			}
			if len(lists[i]) < 4 {
				for _, p := range few {
					lists = append(lists, append(slices.Clone(lists[i]), p))
				}
			}
		}
		// In a free algebra, the ticket alone, two holders, and the seven restricted lists; in a computed one, all lists of the first four predicates.
		want := 1 + 4 + 16 + 64 + 256
		if free {
			want = 1 + 2 + 7
		}
		if tags != want || !same(a, before) {
			t.Errorf("free %v: %d lists have tags, want %d; unchanged %v", free, tags, want, same(a, before))
		}
	}
}

// P15.4: tickets and lists of all lengths: there is a limit for messages only.
func TestLongTags(t *testing.T) {
	for _, free := range kinds {
		for _, size := range []int{0, 1, 31, 75, 1024, 1025, 4090, 4091, 4092, 4096, 10000} {
			a, _, e := made(started(free), api.Tag{4}, "grant"+string(text(size)))
			if e != api.OK {
				a = started(free)
			}
			if _, ok := checkTag(t, a, api.Tag{4}, text(size), nil); ok != (size <= 4091) {
				t.Errorf("free %v: the tag of a ticket of %d bytes is found: %v", free, size, ok)
			}
		}
		a, tag, _ := made(started(free), api.Tag{4}, "grantt")
		l := []api.Predicate{}
		for range 100 {
			a, tag, _ = made(a, tag, "condition\x06\x03ann")
			l = append(l, holder("ann"))
			if got, ok := checkTag(t, a, api.Tag{4}, []byte("t"), l); got != tag || !ok {
				t.Errorf("free %v: %d conditions: %x, %v", free, len(l), got, ok)
			}
		}
		l[50] = rides(1)
		if _, ok := checkTag(t, a, api.Tag{4}, []byte("t"), l); ok {
			t.Errorf("free %v: rides among the conditions", free)
		}
	}
}

// branch is an algebra, and the tickets and discharges that were made in it and before it.
type branch struct {
	a          api.Algebra
	blanks     []api.Blank
	discharges []api.Discharge
}

// P15.2 to P15.4: calls by lot, on a tree of algebras, each of which may be gone on with more than once.
func TestCallsByLot(t *testing.T) {
	offices := []api.Concession{office, {Party: 7, Key: api.Tag{6}, Persons: office.Persons[1:]}}
	terms := []api.Terms{old, all, {Least: 20, Most: 40}}
	for _, free := range kinds {
		lot := rand.New(rand.NewPCG(15, 2))
		branches := []branch{{started(free), []api.Blank{{Ticket: []byte("t")}}, []api.Discharge{{Ticket: []byte("t"), Tag: api.Tag{4}}}}}
		var kept []api.Algebra
		for range 3000 {
			b := branches[lot.IntN(len(branches))]
			blank, d := b.blanks[lot.IntN(len(b.blanks))], b.discharges[lot.IntN(len(b.discharges))]
			c := offices[lot.IntN(len(offices))]
			leaf, r := api.Tag{byte(lot.IntN(2))}, api.Request{Gate: lot.IntN(10) - 1, Nonce: lot.IntN(4)}
			e := api.OK
			switch lot.IntN(6) {
			case 0:
				b.a, blank = withTicket(t, b.a, c, terms[lot.IntN(len(terms))])
				b.blanks = append(slices.Clone(b.blanks), blank)
			case 1, 2:
				name := []string{"ann", "bob", "cid", "eve", "Eve"}[lot.IntN(5)]
				b.a, d, e = checkGrant(t, b.a, c, blank.Ticket, name, lot.IntN(100)*year-1)
				b.discharges = append(slices.Clone(b.discharges), d)
			case 3:
				p := []api.Predicate{times(1, 2), holder("bob"), rides(1), {}}[lot.IntN(4)]
				b.a, d, e = checkRestrict(t, b.a, d, p)
				b.discharges = append(slices.Clone(b.discharges), d)
			case 4:
				b.a, _, e = checkBind(t, b.a, d, leaf, r)
			default:
				checkTag(t, b.a, blank.Key, blank.Ticket, d.Conditions)
				checkProof(t, b.a, d.Tag, leaf, r)
				continue
			}
			if e == api.OK {
				branches, kept = append(branches, b), append(kept, copied(b.a))
			}
		}
		if len(kept) < 1000 {
			t.Errorf("free %v: only %d calls made something", free, len(kept))
		}
		for i, a := range kept {
			if !same(a, branches[i+1].a) {
				t.Errorf("free %v: the algebra %d is not as it was returned", free, i+1)
			}
		}
	}
}

// P15.4, P15.5: the gate finds the key of each concession of a pass in its box, and with it the tag and the proof of each discharge that was granted, restricted and bound.
func TestGatesFindProofs(t *testing.T) {
	root := api.Epoch{Number: 3, Key: api.Tag{7}}
	for _, free := range kinds {
		a, p, _ := chain.Mint(algebra.New(free, api.Tag{1}), root, 300)
		var bound []api.Bound
		var discharges []api.Discharge
		for i := range 8 {
			c := office
			c.Party, c.Key = i, api.Tag{5, byte(i)}
			var b api.Blank
			var d api.Discharge
			a, b = withTicket(t, a, c, all)
			a, p, _ = ticket.Add(a, p, b)
			a, d = mustGrant(t, a, c, b.Ticket, []string{"ann", "bob", "cid"}[i%3])
			for _, x := range conditions[:i%3] {
				a, d = mustRestrict(t, a, d, x.p)
			}
			discharges = append(discharges, d)
		}
		r := api.Request{Gate: 2, Nonce: 5}
		for _, d := range discharges {
			var x api.Bound
			a, x = mustBind(t, a, d, p.Tag, r)
			bound = append(bound, x)
		}
		tags, e := chain.Tags(a, root, 300, p.Caveats)
		if len(tags) != 9 || e != api.OK {
			t.Fatalf("free %v: %d tags, %d", free, len(tags), e)
		}
		for i, x := range bound {
			c := p.Caveats[i]
			sealKey, _ := algebra.Look(a, tags[i], append([]byte("seal"), c.Ticket...))
			key, _ := box.Open(a, sealKey, c.Box)
			tag, ok := discharge.Tag(a, api.Tag(key), x.Ticket, x.Conditions)
			proof, found := discharge.Proof(a, tag, tags[8], r)
			if tag != discharges[i].Tag || proof != x.Proof || !ok || !found {
				t.Errorf("free %v: the discharge %d has the tag %x, %v, and the proof %x, %v", free, i, tag, ok, proof, found)
			}
		}
	}
}

// P15.5: the proof of a bound discharge is that of one pass, of one request and of one discharge.
func TestProofsServeOneRequest(t *testing.T) {
	for _, free := range kinds {
		a, b := withTicket(t, started(free), office, all)
		a, ann := mustGrant(t, a, office, b.Ticket, "ann")
		a, bob := mustGrant(t, a, office, b.Ticket, "bob")
		a, narrow := mustRestrict(t, a, ann, times(1, 2))
		proofs := map[api.Tag]bool{}
		n := 0
		for _, d := range []api.Discharge{ann, bob, narrow} {
			for _, leaf := range []api.Tag{{}, {1}, {31: 1}, ann.Tag} {
				for gate := range 8 {
					for _, nonce := range []int{1, 2, 128, 1 << 48} {
						r := api.Request{Gate: gate, Nonce: nonce}
						if proof, ok := checkProof(t, a, d.Tag, leaf, r); free && ok || proofs[proof] {
							t.Fatalf("free %v: before Bind, the proof for %v is %x, %v", free, r, proof, ok)
						}
						var x api.Bound
						a, x = mustBind(t, a, d, leaf, r)
						proofs[x.Proof] = true
						n++
					}
				}
			}
		}
		if len(proofs) != n {
			t.Errorf("free %v: %d proofs, %d of them different", free, n, len(proofs))
		}
	}
}

// P15.5: a discharge serves its holder only, whatever else is added to it.
func TestDischargesServeOneHolder(t *testing.T) {
	for _, free := range kinds {
		a, b := withTicket(t, started(free), office, all)
		for _, name := range []string{"ann", "bob"} {
			_, d := mustGrant(t, a, office, b.Ticket, name)
			for _, other := range []string{"ann", "bob", "an", "zed"} {
				if _, ok := holds.All(d.Conditions, api.Context{Holder: other}); ok != (other == name) {
					t.Errorf("free %v: the discharge for %s holds for %s: %v", free, name, other, ok)
				}
			}
			_, d = mustRestrict(t, a, d, times(0, 5), holder("bob"))
			if _, ok := holds.All(d.Conditions, api.Context{Holder: "bob"}); ok != (name == "bob") {
				t.Errorf("free %v: the discharge for %s, given to Bob, holds for him: %v", free, name, ok)
			}
		}
	}
}

// P15.5: in a free algebra, nobody who has a discharge, but not the keys, can take its conditions away or put others in their place, and nobody who has only its proof can bind it again.
func TestNothingIsTakenAway(t *testing.T) {
	a, secret, _ := algebra.Key(algebra.New(true, api.Tag{}))
	c := office
	c.Key = secret
	a, b := withTicket(t, a, c, all)
	a, d := mustGrant(t, a, c, b.Ticket, "ann")
	a, d = mustRestrict(t, a, d, times(1, 2))
	a, x := mustBind(t, a, d, api.Tag{1}, api.Request{Nonce: 1})
	ann, eve, time, rest := "condition\x06\x03ann", "condition\x06\x03eve", "condition\x04\x01\x02", "condition\x04\x00\x05"
	messages := []string{"grant" + string(b.Ticket), ann, eve, time, rest, "bind" + strings.Repeat("\x00", 32) + "\x00\x02"}
	// gained returns an algebra in which somebody who knows these tags has made further ones, and those.
	gained := func(a api.Algebra, known ...api.Tag) (api.Algebra, []api.Tag) {
		for i := 0; i < len(known) && len(known) < 400; i++ {
			for _, message := range messages {
				var tag api.Tag
				a, tag, _ = algebra.Mac(a, known[i], []byte(message))
				known = append(known, tag)
			}
		}
		return a, known
	}

	withTag, known := gained(a, d.Tag, x.Proof, api.Tag{}, api.Tag{1})
	lists, extensions := [][]api.Predicate{nil}, 0
	for i := 0; i < len(lists); i++ {
		tag, ok := checkTag(t, withTag, b.Key, b.Ticket, lists[i])
		extends := len(lists[i]) >= 2 && lists[i][0] == holder("ann") && lists[i][1] == times(1, 2)
		if ok && slices.Contains(known, tag) != extends {
			t.Errorf("the tag of %v is known: %v", lists[i], !extends)
		}
		if ok && extends {
			extensions++
		}
		if len(lists[i]) < 3 {
			for _, p := range []api.Predicate{holder("ann"), holder("eve"), times(1, 2), times(0, 5)} {
				lists = append(lists, append(slices.Clone(lists[i]), p))
			}
		}
	}
	if extensions != 5 {
		t.Errorf("%d lists extend the discharge", extensions)
	}

	withProof, _ := gained(a, x.Proof, api.Tag{}, api.Tag{1})
	for _, leaf := range []api.Tag{{}, {1}} {
		for _, r := range []api.Request{{Nonce: 1}, {Nonce: 2}, {Gate: 1, Nonce: 1}} {
			_, ok := checkProof(t, withProof, d.Tag, leaf, r)
			if right := leaf == (api.Tag{1}) && r == (api.Request{Nonce: 1}); ok != right {
				t.Errorf("there is a proof for %x and %v: %v", leaf, r, ok)
			}
		}
	}
}

// R3: no function modifies its arguments, not even behind their ends, and no result shares memory with them, but for the entries of algebras.
func TestSharedMemory(t *testing.T) {
	spoil := func(b []byte) {
		for i := range b[:cap(b)] {
			b[:cap(b)][i] ^= 255
		}
	}
	leaf, r := api.Tag{7}, api.Request{Nonce: 1}
	for _, free := range kinds {
		a, b := withTicket(t, started(free), office, all)
		a.Macs = append(slices.Clone(a.Macs), api.Mac{Tag: api.Tag{1}}, api.Mac{Tag: api.Tag{2}})[:len(a.Macs)]
		kept := copied(a)
		x := append(slices.Clone(b.Ticket), "more"...)[:len(b.Ticket)]
		persons := slices.Clone(office.Persons)
		c, d := mustGrant(t, a, api.Concession{Key: office.Key, Persons: persons[:3]}, x, "ann")
		d.Conditions = append(d.Conditions, rides(6), rides(7))[:1]
		keptD := copiedDischarge(d)
		e, narrow := mustRestrict(t, c, d, times(1, 2))
		_, wide := mustRestrict(t, c, d, times(3, 4))
		f, bound := mustBind(t, e, narrow, leaf, r)
		_, boundAgain := mustBind(t, e, narrow, leaf, r)
		keptF, keptNarrow := copied(f), copiedDischarge(narrow)
		discharge.Tag(f, b.Key, x, narrow.Conditions)
		discharge.Proof(f, narrow.Tag, leaf, r)
		if l := a.Macs[:len(a.Macs)+2]; !same(a, kept) || l[len(l)-2].Tag != (api.Tag{1}) || l[len(l)-1].Tag != (api.Tag{2}) {
			t.Errorf("free %v: the algebra was modified", free)
		}
		if !sameDischarge(d, keptD) || d.Conditions[:3][1] != rides(6) || d.Conditions[:3][2] != rides(7) || !slices.Equal(persons, office.Persons) || string(x[:len(x)+4]) != string(b.Ticket)+"more" {
			t.Errorf("free %v: an argument was modified", free)
		}

		spoil(x)
		clear(persons)
		if !sameDischarge(d, keptD) {
			t.Errorf("free %v: the discharge became %v", free, d)
		}
		spoil(d.Ticket)
		clear(d.Conditions[:3])
		if !sameDischarge(narrow, keptNarrow) || wide.Conditions[0] != holder("ann") || wide.Conditions[1] != times(3, 4) || string(wide.Ticket) != string(b.Ticket) {
			t.Errorf("free %v: the restricted discharges became %v and %v", free, narrow, wide)
		}
		spoil(narrow.Ticket)
		clear(narrow.Conditions[:cap(narrow.Conditions)])
		if !slices.Equal(bound.Conditions, keptNarrow.Conditions) || string(bound.Ticket) != string(b.Ticket) {
			t.Errorf("free %v: the bound discharge became %v", free, bound)
		}
		spoil(bound.Ticket)
		clear(bound.Conditions[:cap(bound.Conditions)])
		if !slices.Equal(boundAgain.Conditions, keptNarrow.Conditions) || string(boundAgain.Ticket) != string(b.Ticket) || !same(f, keptF) {
			t.Errorf("free %v: the other bound discharge became %v", free, boundAgain)
		}
	}
}

// Nil and empty slices are equivalent.
func TestEmptyIsNil(t *testing.T) {
	leaf, r := api.Tag{7}, api.Request{Nonce: 1}
	for _, free := range kinds {
		a, b := api.Algebra{Free: free, Macs: []api.Mac{}, Boxes: []api.Sealed{}}, api.Algebra{Free: free}
		full, none := api.Discharge{Ticket: []byte{}, Conditions: []api.Predicate{}}, api.Discharge{}
		c, x, e := discharge.Restrict(a, full, times(1, 2))
		d, y, f := discharge.Restrict(b, none, times(1, 2))
		if !same(c, d) || !sameDischarge(x, y) || e != api.OK || f != api.OK {
			t.Errorf("free %v: Restrict: %v, %d, and %v, %d", free, x, e, y, f)
		}
		c, v, e := discharge.Bind(a, full, leaf, r)
		d, w, f := discharge.Bind(b, none, leaf, r)
		if !same(c, d) || !sameBound(v, w) || e != api.OK || f != api.OK {
			t.Errorf("free %v: Bind: %v, %d, and %v, %d", free, v, e, w, f)
		}
		if _, _, e := discharge.Grant(a, office, []byte{}, "ann", 0); e != api.ErrSeal {
			t.Errorf("free %v: Grant of no ticket: %d", free, e)
		}
		c, _, _ = made(b, api.Tag{4}, "grant")
		first, ok := discharge.Tag(c, api.Tag{4}, []byte{}, []api.Predicate{})
		second, found := discharge.Tag(c, api.Tag{4}, nil, nil)
		if first != second || !ok || !found {
			t.Errorf("free %v: Tag: %x, %v, and %x, %v", free, first, ok, second, found)
		}
	}
}

// R3, R4: calls that run at the same time do not disturb each other.
func TestCallsAtTheSameTime(t *testing.T) {
	for _, free := range kinds {
		a, b := withTicket(t, started(free), office, all)
		a, d := mustGrant(t, a, office, b.Ticket, "bob")
		var group sync.WaitGroup
		for n := range 8 {
			group.Go(func() {
				r := api.Request{Gate: n, Nonce: n + 1}
				for range 30 {
					want, wantDischarge, _ := grant(a, office, b.Ticket, "ann", n)
					wantRestricted, wantNarrow, _ := restrict(a, d, times(n, n))
					wantBinding, wantBound, _ := bind(a, d, api.Tag{7}, r)
					c, x, e := discharge.Grant(a, office, b.Ticket, "ann", n)
					f, y, g := discharge.Restrict(a, d, times(n, n))
					h, z, i := discharge.Bind(a, d, api.Tag{7}, r)
					tag, ok := discharge.Tag(f, b.Key, b.Ticket, y.Conditions)
					proof, found := discharge.Proof(h, d.Tag, api.Tag{7}, r)
					if !same(c, want) || !sameDischarge(x, wantDischarge) || !same(f, wantRestricted) || !sameDischarge(y, wantNarrow) || !same(h, wantBinding) || !sameBound(z, wantBound) || e != api.OK || g != api.OK || i != api.OK || tag != y.Tag || proof != z.Proof || !ok || !found {
						t.Errorf("free %v: %v, %d; %v, %d; %v, %d; %x, %v; %x, %v", free, x, e, y, g, z, i, tag, ok, proof, found)
						return
					}
				}
			})
		}
		group.Wait()
	}
}

// The predicates of the tests are what they are said to be.
func TestPredicatesOfTests(t *testing.T) {
	for _, x := range conditions {
		if b, e := predicate.Encode(x.p); string(b) != x.encoded || e != api.OK {
			t.Errorf("the encoding of %v is %x, %d", x.p, b, e)
		}
	}
	for _, p := range wrongConditions {
		if predicate.Valid(p) {
			t.Errorf("%v is valid", p)
		}
	}
}
