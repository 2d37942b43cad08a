package contain_test

import (
	"math"
	"math/rand/v2"
	"slices"
	"strings"
	"testing"

	"macaroon/api"
	"macaroon/authority"
	"macaroon/contain"
	"macaroon/predicate"
)

const lastOne = 67108864

var none = api.Authority{None: true}

// parse returns the predicates of s, which are separated by semicolons; an empty s has none.
func parse(t *testing.T, s string) []api.Predicate {
	t.Helper()
	var l []api.Predicate
	for text := range strings.SplitSeq(s, "; ") {
		if s == "" {
			break
		}
		p, e := predicate.Parse(text)
		if e != api.OK {
			t.Fatalf("%q is no predicate: %d", text, e)
		}
		l = append(l, p)
	}
	return l
}

// of returns the authority of the predicates of s.
func of(t *testing.T, s string) api.Authority {
	t.Helper()
	a, e := authority.Of(parse(t, s))
	if e != api.OK {
		t.Fatalf("Of(%q): %d", s, e)
	}
	return a
}

// onMinutes returns the authority of the single minutes first, first + 2 and so on of each day.
func onMinutes(t *testing.T, first int) api.Authority {
	t.Helper()
	a := authority.Full()
	a.From, a.To, a.Daily = first, lastOne, nil
	for m := first; m < 1440; m += 2 {
		a.Daily = append(a.Daily, api.Span{From: m, To: m})
	}
	for !slices.Contains(a.Daily, api.Span{From: a.To % 1440, To: a.To % 1440}) {
		a.To--
	}
	if !authority.Valid(a) {
		t.Fatalf("%.200v is not valid", a)
	}
	return a
}

// various returns authorities of many sorts, all of them valid and each of them once.
func various(t *testing.T) []api.Authority {
	t.Helper()
	texts := []string{
		"zone 0", "zone 1,2,5", "zone 5,63", "zone 63", "line 0,31", "line 3", "line 31", "days 0", "days 1,3", "days 0,1,2,3,4,5", "days 6",
		"time 0-0", "time 0-1439", "time 1000-14500", "time 14400-30000", "time 0-67108863", "time 1-67108864", "time 67108864-67108864",
		"daily 0-0", "daily 100-300", "daily 301-99", "daily 1380-300", "daily 545-1439", "daily 800-1100", "holder a", "holder b", "holder abcdefghijklmnop", "rides 0",
	}
	l := []api.Authority{none, onMinutes(t, 0), onMinutes(t, 1)}
	add := func(s string) {
		a := of(t, s)
		if !slices.ContainsFunc(l, func(b api.Authority) bool { return same(a, b) }) {
			l = append(l, a)
		}
	}
	for i, s := range texts {
		add(s)
		for j, other := range texts[i:] {
			if (i+j)%3 == 0 {
				add(s + "; " + other)
			}
		}
	}
	add("zone 0,5; line 0,3; days 0,6; time 1000-67000000; daily 1380-300; daily 1400-200; holder a")
	add("zone 5; line 3; days 6; time 9000-60000000; daily 1400-100; holder a")
	return l
}

// few returns authorities of few contexts, all of them valid.
func few(t *testing.T) []api.Authority {
	t.Helper()
	l := []api.Authority{none}
	for _, zones := range []string{"zone 3", "zone 3,4", "zone 4,63", "zone 0,3,4"} {
		for _, lines := range []string{"line 0", "line 0,7", "line 7,31"} {
			for _, minutes := range []string{"time 0-2", "time 1-3", "time 1-1", "time 1439-1440", "time 0-4000; daily 1-1", "time 0-11520; days 0; daily 2-3"} {
				for _, holder := range []string{"rides 1", "holder a", "holder b", "holder ab"} {
					l = append(l, of(t, strings.Join([]string{zones, lines, minutes, holder}, "; ")))
				}
			}
		}
	}
	return l
}

// changes returns a with one field changed, in many ways. Some of the results are valid.
func changes(a api.Authority) []api.Authority {
	var l []api.Authority
	add := func(f func(b *api.Authority)) {
		b := a
		b.Daily = slices.Clone(a.Daily)
		f(&b)
		l = append(l, b)
	}
	add(func(b *api.Authority) { b.None = !b.None })
	for _, mask := range []uint64{0, 1, 128, 1 << 32, 1 << 63, math.MaxUint64} {
		add(func(b *api.Authority) { b.Zones = mask })
		add(func(b *api.Authority) { b.Lines = mask })
		add(func(b *api.Authority) { b.Days = mask })
	}
	for _, n := range []int{math.MinInt, -1440, -1, 0, 1, 1440, lastOne - 1, lastOne, lastOne + 1, math.MaxInt} {
		add(func(b *api.Authority) { b.From = n })
		add(func(b *api.Authority) { b.To = n })
		add(func(b *api.Authority) { b.Daily = append(b.Daily, api.Span{From: n, To: n}) })
		add(func(b *api.Authority) { b.Daily = append(b.Daily, api.Span{From: 0, To: n}) })
		add(func(b *api.Authority) { b.Daily = []api.Span{{From: n, To: 1439}} })
	}
	for _, s := range []string{"", "a", "A", "abcdefghijklmnopq", "a b", "\x00"} {
		add(func(b *api.Authority) { b.Holder = s })
	}
	return l
}

// P9.1: first contexts that are written out.
func TestWrittenLeast(t *testing.T) {
	for s, want := range map[string]api.Context{
		"":                        {Holder: "a"},
		"zone 3,4; daily 5-9":     {Zone: 3, Minute: 5, Holder: "a"},
		"zone 63":                 {Zone: 63, Holder: "a"},
		"line 5,31":               {Line: 5, Holder: "a"},
		"line 31":                 {Line: 31, Holder: "a"},
		"days 6":                  {Minute: 8640, Holder: "a"},
		"time 67108864-67108864":  {Minute: lastOne, Holder: "a"},
		"holder abcdefghijklmnop": {Holder: "abcdefghijklmnop"},
		"zone 1,2; line 2,3; time 700-9000; days 1,2; daily 600-650; holder bob": {Zone: 1, Line: 2, Minute: 2040, Holder: "bob"},
		"time 700-9000; daily 650-1000":                                          {Minute: 700, Holder: "a"},
		"time 700-9000; daily 800-1000":                                          {Minute: 800, Holder: "a"},
		"time 1430-9000; daily 1439-0":                                           {Minute: 1439, Holder: "a"},
	} {
		if c, ok := contain.Least(of(t, s)); c != want || !ok {
			t.Errorf("Least of %q = %v, %t, want %v", s, c, ok, want)
		}
	}
}

// P9.1: the first context of an authority is the first one that is not in the empty set.
func TestLeast(t *testing.T) {
	for _, a := range append(various(t), few(t)...) {
		want, found := firstOutside(a, none)
		if c, ok := contain.Least(a); c != want || ok != found {
			t.Errorf("Least(%.200v) = %v, %t, want %v, %t", a, c, ok, want, found)
		}
		if c, ok := contain.Witness(a, none); c != want || ok != found {
			t.Errorf("Witness(%.200v, None) = %v, %t, want %v, %t", a, c, ok, want, found)
		}
	}
}

// P9.1: witnesses that are written out; the zero context stands for none.
func TestWrittenWitness(t *testing.T) {
	for _, x := range []struct {
		a, b string
		want api.Context
	}{
		{"", "holder a", api.Context{Holder: "b"}},
		{"", "holder b", api.Context{Holder: "a"}},
		{"", "holder aa", api.Context{Holder: "a"}},
		{"holder aa", "holder ab", api.Context{Holder: "aa"}},
		{"holder aa", "holder aa", api.Context{}},
		{"holder aa", "", api.Context{}},
		{"", "", api.Context{}},
		{"", "zone 0; line 0; time 0-0; holder a", api.Context{Holder: "b"}},
		{"holder a", "zone 0; line 0; time 0-0; holder a", api.Context{Minute: 1, Holder: "a"}},
		{"holder a; time 0-0", "zone 0; line 0; time 0-0; holder a", api.Context{Line: 1, Holder: "a"}},
		{"holder a; time 0-0; line 0", "zone 0; line 0; time 0-0; holder a", api.Context{Zone: 1, Holder: "a"}},
		{"zone 1,2; line 1,2; holder a; time 9-9", "zone 1; line 1", api.Context{Zone: 1, Line: 2, Minute: 9, Holder: "a"}},
		{"zone 2,63", "zone 0,2", api.Context{Zone: 63, Holder: "a"}},
		{"zone 2,63; line 1,31", "zone 1,63; line 1", api.Context{Zone: 2, Line: 1, Holder: "a"}},
		{"line 2,31", "line 0,2", api.Context{Line: 31, Holder: "a"}},
		{"daily 5-9", "daily 5-8; daily 5-7", api.Context{Minute: 8, Holder: "a"}},
		{"daily 5-9", "daily 4-10", api.Context{}},
		{"daily 4-10", "daily 5-9", api.Context{Minute: 4, Holder: "a"}},
		{"daily 1380-300", "daily 1381-300", api.Context{Minute: 1380, Holder: "a"}},
		{"daily 1380-300", "daily 1380-299", api.Context{Minute: 300, Holder: "a"}},
		{"daily 1380-300", "daily 500-300; daily 1200-400", api.Context{}},
		{"daily 1380-300; daily 1400-200", "daily 1400-200", api.Context{}},
		{"days 0,1", "days 0", api.Context{Minute: 1440, Holder: "a"}},
		{"days 0,1", "days 1", api.Context{Holder: "a"}},
		{"days 0", "time 0-1439", api.Context{Minute: 10080, Holder: "a"}},
		{"time 600-60000; days 0; daily 100-700", "daily 600-700", api.Context{Minute: 10180, Holder: "a"}},
		{"time 600-10179; days 0; daily 100-700", "daily 600-700", api.Context{}},
		{"", "time 0-67108863", api.Context{Minute: lastOne, Holder: "a"}},
		{"", "time 0-60000000", api.Context{Minute: 60000001, Holder: "a"}},
		{"days 3", "time 0-60000000", api.Context{Minute: 41667 * 1440, Holder: "a"}},
		{"time 5-67000000", "time 5-67000000", api.Context{}},
		{"time 5-67000000", "time 6-67000000", api.Context{Minute: 5, Holder: "a"}},
	} {
		a, b := of(t, x.a), of(t, x.b)
		c, ok := contain.Witness(a, b)
		if found := x.want != (api.Context{}); c != x.want || ok != found {
			t.Errorf("Witness of %q and %q = %v, %t, want %v", x.a, x.b, c, ok, x.want)
		}
		if contain.Within(a, b) == ok {
			t.Errorf("Within of %q and %q = %t", x.a, x.b, ok)
		}
	}
}

// checkWitness compares Witness and Within with what is described.
func checkWitness(t *testing.T, a, b api.Authority) {
	t.Helper()
	want, found := firstOutside(a, b)
	if c, ok := contain.Witness(a, b); c != want || ok != found {
		t.Fatalf("Witness(%.200v, %.200v) = %v, %t, want %v, %t", a, b, c, ok, want, found)
	}
	if contain.Within(a, b) == found {
		t.Fatalf("Within(%.200v, %.200v) = %t", a, b, found)
	}
}

// P9.1: all pairs of authorities of few contexts.
func TestWitness(t *testing.T) {
	l := few(t)
	for i, a := range l {
		for j, b := range l {
			if (i+j)%3 == 0 {
				checkWitness(t, a, b)
			}
		}
	}
}

// P9.1: pairs of stretches of up to 30 days with different days of the week and times of the day.
func TestMinutes(t *testing.T) {
	var l []api.Authority
	for i, stretch := range []string{"time 0-43000", "time 650-43000", "time 1300-30000", "time 0-1439", "time 1439-11521", "time 600-10740", "time 600-12180", "time 600-13620", "time 10000-25000", "time 30000-43200"} {
		for j, days := range []string{"days 0", "days 0,1", "days 6", "days 1,2,3,4,5,6", "rides 1"} {
			for _, daily := range []string{"daily 600-700", "daily 1400-100", "daily 650-650", "daily 700-600", "rides 1"} {
				for _, holder := range []string{"holder ann", "rides 1"} {
					if a := of(t, strings.Join([]string{"zone 1; line 2", stretch, days, daily, holder}, "; ")); (i+j)%3 > 0 || holder != "rides 1" {
						l = append(l, a)
					}
				}
			}
		}
	}
	for i, a := range l {
		for j, b := range l {
			if (i*7+j)%11 == 0 {
				checkWitness(t, a, b)
			}
		}
	}
}

// P9.1: pairs of authorities on minutes that are chosen by lot, always the same ones; the second one lacks little of the first one.
func TestMinutesByLot(t *testing.T) {
	r := rand.New(rand.NewPCG(9, 1))
	daily := func() api.Predicate {
		begin := r.IntN(1440)
		return api.Predicate{Kind: api.PredDaily, From: begin, To: (begin + 1000 + r.IntN(439)) % 1440}
	}
	found := 0
	for range 2000 {
		from := r.IntN(20000)
		to := from + r.IntN(40000)
		l := []api.Predicate{{Kind: api.PredZone, Mask: 8}, {Kind: api.PredLine, Mask: 8}, {Kind: api.PredHolder, Name: "ann"}, {Kind: api.PredTime, From: from, To: to}}
		if r.IntN(2) == 0 {
			l = append(l, api.Predicate{Kind: api.PredDays, Mask: 1 + r.Uint64N(127)})
		}
		for range r.IntN(5) {
			l = append(l, daily())
		}
		a, _ := authority.Of(l)
		p := []api.Predicate{daily(), {Kind: api.PredTime, From: from - r.IntN(from+1), To: to - r.IntN(min(to-from, 3000)+1)}}
		if r.IntN(4) == 0 {
			p[0] = api.Predicate{Kind: api.PredDays, Mask: 127 - 1<<r.IntN(7)}
		}
		if r.IntN(2) == 0 {
			p = p[:1]
		}
		b, _ := authority.Of(append(l[:3:3], p...))
		checkWitness(t, a, b)
		if _, ok := contain.Witness(a, b); ok {
			found++
		}
	}
	if found < 500 || found > 1900 {
		t.Errorf("%d pairs have a witness", found)
	}
}

// P9.1: minutes of all days, in pairs that differ nowhere, or only late.
func TestAllDays(t *testing.T) {
	for _, s := range []string{"rides 1", "daily 1380-300", "days 4; daily 100-50; daily 200-150", "time 500-67100000; daily 20-10"} {
		whole := of(t, "zone 1; line 1; holder ann; "+s)
		for _, other := range []string{s, s + "; time 0-67000000"} {
			checkWitness(t, whole, of(t, other))
		}
	}
}

// P9.1 and P9.3: all pairs of authorities of many contexts, compared with what layer 8 says of them.
func TestManyContexts(t *testing.T) {
	l := various(t)
	inside := 0
	for _, a := range l {
		for _, b := range l {
			c, ok := contain.Witness(a, b)
			covered := covers(b, a)
			if ok == covered || ok && !isFirst(a, b, c) || !ok && c != (api.Context{}) {
				t.Fatalf("Witness(%.200v, %.200v) = %v, %t", a, b, c, ok)
			}
			if contain.Within(a, b) != covered {
				t.Fatalf("Within(%.200v, %.200v) = %t", a, b, !covered)
			}
			if covered {
				inside++
			}
		}
	}
	if inside < 500 {
		t.Errorf("only %d pairs are within one another", inside)
	}
}

// P9.1: the empty set is within every set, and only the empty set is within it.
func TestEmpty(t *testing.T) {
	for _, a := range various(t) {
		if c, ok := contain.Witness(none, a); c != (api.Context{}) || ok || !contain.Within(none, a) {
			t.Errorf("Witness(None, %.200v) = %v, %t", a, c, ok)
		}
		if contain.Within(a, none) != a.None {
			t.Errorf("Within(%.200v, None)", a)
		}
	}
	if c, ok := contain.Least(none); c != (api.Context{}) || ok {
		t.Errorf("Least(None) = %v, %t", c, ok)
	}
	alone := api.Authority{None: true, Daily: []api.Span{}}
	if !contain.Within(alone, none) || !contain.Within(none, alone) {
		t.Error("None with an empty list is not within None")
	}
}

// P9.1: Same compares all fields, also of authorities that are not valid.
func TestSame(t *testing.T) {
	base := []api.Authority{{}, none, authority.Full(), of(t, "zone 1; line 2; days 3; daily 1380-300; holder ann")}
	all := slices.Clone(base)
	for _, a := range base {
		all = append(all, changes(a)...)
	}
	for _, a := range all {
		for _, b := range all {
			if contain.Same(a, b) != same(a, b) {
				t.Fatalf("Same(%v, %v) = %t", a, b, !same(a, b))
			}
		}
		copied := a
		copied.Daily = slices.Clone(a.Daily)
		if !contain.Same(a, copied) {
			t.Fatalf("Same of %v and its copy = false", a)
		}
	}
	day := []api.Span{{From: 1, To: 2}, {From: 5, To: 9}}
	for _, l := range [][]api.Span{nil, day[:1], day[1:], {day[1], day[0]}, append(slices.Clone(day), day[1]), {day[0], {From: 5, To: 8}}, {day[0], {From: 4, To: 9}}} {
		if contain.Same(api.Authority{Daily: day}, api.Authority{Daily: l}) {
			t.Errorf("Same of the spans %v and %v = true", day, l)
		}
	}
	if !contain.Same(api.Authority{Daily: []api.Span{}}, api.Authority{}) {
		t.Error("Same of an empty list and no list = false")
	}
}

// P9.2: with an authority that is not valid, in either place, there is nothing.
func TestInvalid(t *testing.T) {
	good := []api.Authority{none, authority.Full(), of(t, "zone 1; line 2; days 3; daily 1380-300; holder ann")}
	invalid := []api.Authority{{}}
	for _, a := range good {
		for _, b := range changes(a) {
			if !authority.Valid(b) {
				invalid = append(invalid, b)
			}
		}
	}
	if len(invalid) < 100 {
		t.Errorf("only %d authorities are not valid", len(invalid))
	}
	for _, b := range invalid {
		if c, ok := contain.Least(b); c != (api.Context{}) || ok {
			t.Fatalf("Least(%v) = %v, %t", b, c, ok)
		}
		for _, a := range append([]api.Authority{b, {}}, good...) {
			if contain.Within(a, b) || contain.Within(b, a) {
				t.Fatalf("Within of %v and %v", a, b)
			}
			if c, ok := contain.Witness(a, b); c != (api.Context{}) || ok {
				t.Fatalf("Witness(%v, %v) = %v, %t", a, b, c, ok)
			}
			if c, ok := contain.Witness(b, a); c != (api.Context{}) || ok {
				t.Fatalf("Witness(%v, %v) = %v, %t", b, a, c, ok)
			}
		}
	}
}

// P9.3: a pass permits no more with one more predicate, and no more than any of its predicates.
func TestAttenuated(t *testing.T) {
	l := parse(t, "zone 1,2,5; zone 5; line 3; line 0,31; days 1,3; days 0,1,2,3,4,5; time 1000-14500; time 14400-30000; time 67108864-67108864; daily 1380-300; daily 301-99; daily 800-1100; holder a; holder ann; rides 0")
	for i, p := range l {
		for _, q := range l {
			for _, r := range l[i:] {
				longer, _ := authority.Of([]api.Predicate{p, q, r})
				before, _ := authority.Of([]api.Predicate{p, q})
				added, _ := authority.Of([]api.Predicate{r})
				if !contain.Within(longer, before) || !contain.Within(longer, added) || !contain.Within(longer, authority.Full()) {
					t.Fatalf("%v permit more than %v", []api.Predicate{p, q, r}, []api.Predicate{p, q})
				}
			}
		}
	}
}

// R3: arguments are not modified, nor what stands behind them.
func TestArgumentsUnchanged(t *testing.T) {
	memory := []api.Span{{From: 0, To: 300}, {From: 1380, To: 1439}, {From: 9, To: 8}}
	other := []api.Span{{From: 0, To: 200}, {From: 1400, To: 1439}, {From: 7, To: 6}}
	first, second := slices.Clone(memory), slices.Clone(other)
	a, b := of(t, "daily 1380-300"), of(t, "daily 1400-200")
	a.Daily, b.Daily = memory[:2], other[:2]
	for range 2 {
		c, _ := contain.Least(a)
		d, _ := contain.Witness(a, b)
		if c != (api.Context{Holder: "a"}) || d != (api.Context{Minute: 201, Holder: "a"}) || contain.Within(a, b) || !contain.Within(b, a) || contain.Same(a, b) {
			t.Errorf("Least(a) = %v, Witness(a, b) = %v", c, d)
		}
	}
	if !slices.Equal(memory, first) || !slices.Equal(other, second) {
		t.Errorf("%v and %v were modified", memory, other)
	}
}
