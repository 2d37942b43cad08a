package authority_test

import (
	"math"
	"math/rand/v2"
	"slices"
	"testing"

	"macaroon/api"
	"macaroon/authority"
	"macaroon/holds"
	"macaroon/predicate"
)

// parse returns the predicates with these texts.
func parse(t *testing.T, texts ...string) []api.Predicate {
	t.Helper()
	var l []api.Predicate
	for _, s := range texts {
		p, e := predicate.Parse(s)
		if e != api.OK {
			t.Fatalf("%q is no predicate: %d", s, e)
		}
		l = append(l, p)
	}
	return l
}

// spans returns the spans from the first to the second of these numbers, from the third to the fourth, and so on.
func spans(ends ...int) []api.Span {
	var l []api.Span
	for i := 0; i < len(ends); i += 2 {
		l = append(l, api.Span{From: ends[i], To: ends[i+1]})
	}
	return l
}

// everySecond returns the spans of the minutes first, first + 2 and so on.
func everySecond(first int) []api.Span {
	var l []api.Span
	for m := first; m < 1440; m += 2 {
		l = append(l, api.Span{From: m, To: m})
	}
	return l
}

// various returns predicates of all kinds, all of them valid.
func various(t *testing.T) []api.Predicate {
	t.Helper()
	return parse(t,
		"zone 0", "zone 5,63", "zone 1,2,5", "line 3", "line 0,31", "days 0", "days 1,3", "days 0,1,2,3,4,5", "days 6",
		"time 0-0", "time 0-1439", "time 1439-1440", "time 1000-14500", "time 14400-30000", "time 67108864-67108864", "time 5-67108864", "time 67000000-67108000",
		"daily 0-0", "daily 1439-1439", "daily 1439-0", "daily 100-300", "daily 300-100", "daily 1380-300", "daily 545-1439", "daily 200-199", "daily 800-1100",
		"holder ann", "holder bob", "holder abcdefghijklmnop", "rides 0", "rides 1000000")
}

// eachList calls f for every list of size predicates that are among the given ones.
func eachList(size int, among []api.Predicate, f func(l []api.Predicate)) {
	l := make([]api.Predicate, size)
	var extend func(i int)
	extend = func(i int) {
		if i == size {
			f(l)
			return
		}
		for _, p := range among {
			l[i] = p
			extend(i + 1)
		}
	}
	extend(0)
}

// written returns valid authorities of many sorts that are written out.
func written() []api.Authority {
	day := spans(0, 1439)
	return []api.Authority{
		none,
		{Zones: allZones, Lines: allLines, Days: 127, To: lastOne, Daily: day},
		{Zones: 1, Lines: 1, Days: 1, Daily: spans(0, 0)},
		{Zones: 1 << 63, Lines: 1 << 31, Days: 16, From: lastOne, To: lastOne, Daily: spans(544, 544), Holder: "abcdefghijklmnop"},
		{Zones: 0x0f, Lines: 0xf0, Days: 127, From: 1440, To: 20159, Daily: day, Holder: "a"},
		{Zones: 0x3c, Lines: 0x3c, Days: 3, From: 1400, To: 1500, Daily: spans(0, 60, 1400, 1439)},
		{Zones: allZones, Lines: allLines, Days: 3, To: 1500, Daily: day, Holder: "ann"},
		{Zones: allZones, Lines: allLines, Days: 65, From: 100, To: 8740, Daily: spans(100, 100)},
		{Zones: allZones, Lines: allLines, Days: 127, From: 100, To: lastOne - 444, Daily: spans(100, 100)},
		{Zones: allZones, Lines: allLines, Days: 127, From: 2, To: lastOne, Daily: spans(2, 4, 6, 9, 11, 500, 502, 1438), Holder: "z"},
		{Zones: allZones, Lines: allLines, Days: 10, From: 1440, To: 1440*46602 + 1439, Daily: day},
		{Zones: allZones, Lines: allLines, Days: 127, To: lastOne, Daily: everySecond(0)},
		{Zones: allZones, Lines: allLines, Days: 127, From: 1, To: lastOne - 1, Daily: everySecond(1), Holder: "ann"},
	}
}

// authorities returns the written ones and those of some lists of up to two predicates, each of them once.
func authorities(t *testing.T) []api.Authority {
	t.Helper()
	l := written()
	add := func(p ...api.Predicate) {
		a, _ := authority.Of(p)
		if !slices.ContainsFunc(l, func(b api.Authority) bool { return same(a, b) }) {
			l = append(l, a)
		}
	}
	for i, p := range various(t) {
		add(p)
		for j, q := range various(t)[i:] {
			if (i+j)%4 == 0 {
				add(p, q)
			}
		}
	}
	return l
}

// minutes returns the minutes around the limits of the written and the other authorities.
func minutes() []int {
	l := []int{-1, lastOne + 1, math.MinInt, math.MaxInt}
	for _, m := range []int{0, 3, 9, 60, 100, 200, 300, 501, 545, 800, 1100, 1380, 1439, 1440, 1500, 1739, 2880, 4320, 8640, 8740, 10080, 10180, 14400, 14500, 20159, 30000, 67000000, 67000100, 67108000, lastOne - 444, lastOne} {
		l = append(l, max(m-1, 0), m, min(m+1, lastOne))
	}
	slices.Sort(l)
	return slices.Compact(l)
}

// contexts returns contexts of the given minutes with different zones, lines and holders, some of which are not valid.
func contexts(minutes ...int) []api.Context {
	l := []api.Context{{}, {Zone: 5, Line: 3}, {Zone: 5, Line: 3, Minute: 100, Holder: "A"}, {Zone: -1, Holder: "ann"}, {Zone: 64, Holder: "ann"}, {Line: -1, Holder: "ann"}, {Line: 32, Holder: "ann"}}
	for _, m := range minutes {
		l = append(l, api.Context{Zone: 5, Line: 3, Minute: m, Holder: "ann"}, api.Context{Minute: m, Holder: "ann"})
	}
	for _, zone := range []int{0, 1, 5, 62, 63} {
		for _, line := range []int{0, 3, 4, 30, 31} {
			for _, holder := range []string{"a", "ann", "bob", "abcdefghijklmnop"} {
				l = append(l, api.Context{Zone: zone, Line: line, Minute: 100, Holder: holder}, api.Context{Zone: zone, Line: line, Minute: lastOne, Holder: holder})
			}
		}
	}
	return l
}

// changes returns a with one field changed, in many ways. Some of the results are valid.
func changes(a api.Authority) []api.Authority {
	var l []api.Authority
	add := func(f func(b *api.Authority)) {
		b := a
		b.Daily = slices.Clone(a.Daily)
		f(&b)
		l = append(l, b)
	}
	add(func(b *api.Authority) { b.None = !b.None })
	for _, mask := range []uint64{0, 1, 0xff, 127, 128, 129, 1 << 31, math.MaxUint32, 1 << 32, math.MaxUint32 + 2, 1 << 63, math.MaxUint64} {
		add(func(b *api.Authority) { b.Zones = mask })
		add(func(b *api.Authority) { b.Lines = mask })
		add(func(b *api.Authority) { b.Days = mask })
	}
	for bit := range 10 {
		add(func(b *api.Authority) { b.Days ^= 1 << bit })
	}
	for _, n := range []int{math.MinInt, -10080, -1440, -1, 0, 1, 99, 544, 1439, 1440, 10080, lastOne - 1440, lastOne - 1, lastOne, lastOne + 1, 1 << 40, math.MaxInt} {
		add(func(b *api.Authority) { b.From = n })
		add(func(b *api.Authority) { b.To = n })
		add(func(b *api.Authority) { b.From, b.To = n, n })
	}
	for _, n := range []int{-10080, -1440, -60, -1, 1, 60, 1440, 10080} {
		add(func(b *api.Authority) { b.From += n })
		add(func(b *api.Authority) { b.To += n })
	}
	for _, s := range []string{"", "a", "ann", "abcdefghijklmnopq", "A", "a b", "ann1", "zoé", "\x00"} {
		add(func(b *api.Authority) { b.Holder = s })
	}
	return append(l, dailyChanges(a)...)
}

// dailyChanges returns a with other spans.
func dailyChanges(a api.Authority) []api.Authority {
	var l []api.Authority
	add := func(daily []api.Span) {
		b := a
		b.Daily = daily
		l = append(l, b)
	}
	n := len(a.Daily)
	for i, s := range a.Daily[:min(n, 5)] {
		for _, d := range []int{-1441, -2, -1, 1, 2, 1441} {
			add(slices.Replace(slices.Clone(a.Daily), i, i+1, api.Span{From: s.From + d, To: s.To}))
			add(slices.Replace(slices.Clone(a.Daily), i, i+1, api.Span{From: s.From, To: s.To + d}))
		}
		middle := (s.From + s.To) / 2
		add(slices.Delete(slices.Clone(a.Daily), i, i+1))
		add(slices.Insert(slices.Clone(a.Daily), i, s))
		add(slices.Replace(slices.Clone(a.Daily), i, i+1, spans(s.From, middle, middle+1, s.To)...))
		add(slices.Replace(slices.Clone(a.Daily), i, i+1, spans(s.From, middle, middle+2, s.To)...))
		add(slices.Replace(slices.Clone(a.Daily), i, i+1, spans(s.From, middle, middle, s.To)...))
		add(slices.Replace(slices.Clone(a.Daily), i, i+1, spans(middle, s.To, s.From, middle-2)...))
		add(slices.Replace(slices.Clone(a.Daily), i, i+1, spans(s.To+1, s.From-1)...))
	}
	for _, s := range spans(0, 0, 0, 1439, 1439, 1439, 0, 1440, -1, 5, -5, -3, 1440, 1440, 1441, 1500, 5, 4, math.MinInt, math.MaxInt, math.MinInt, math.MinInt, math.MaxInt, math.MaxInt, math.MaxInt, math.MinInt) {
		add([]api.Span{s})
		add(append([]api.Span{s}, a.Daily...))
		add(append(slices.Clone(a.Daily), s))
	}
	reversed := slices.Clone(a.Daily)
	slices.Reverse(reversed)
	add(reversed)
	return l
}

// P8.1: Full permits everything, and its fields are written out.
func TestFull(t *testing.T) {
	want := api.Authority{Zones: math.MaxUint64, Lines: math.MaxUint32, Days: 127, To: 67108864, Daily: spans(0, 1439)}
	if a := authority.Full(); !same(a, want) || !authority.Valid(a) {
		t.Errorf("Full() = %v", a)
	}
	for _, c := range contexts(minutes()...) {
		if authority.Contains(authority.Full(), c) != holds.Valid(c) {
			t.Errorf("Full() and %v", c)
		}
	}
}

// P8.1: authorities that are written out and valid.
func TestWrittenAuthorities(t *testing.T) {
	for _, a := range written() {
		if !authority.Valid(a) {
			t.Errorf("Valid(%.200v) = false", a)
		}
	}
	a := none
	a.Daily = []api.Span{}
	if !authority.Valid(a) {
		t.Errorf("Valid of None with an empty list = false")
	}
}

// P8.1: authorities that are written out and not valid, each by one condition.
func TestWrittenInvalid(t *testing.T) {
	day := spans(0, 1439)
	for _, c := range []struct {
		name string
		a    api.Authority
	}{
		{"zero", api.Authority{}},
		{"None with Zones", api.Authority{None: true, Zones: 1}},
		{"None with Lines", api.Authority{None: true, Lines: 1}},
		{"None with Days", api.Authority{None: true, Days: 1}},
		{"None with From", api.Authority{None: true, From: 1}},
		{"None with To", api.Authority{None: true, To: 1}},
		{"None with Daily", api.Authority{None: true, Daily: spans(0, 0)}},
		{"None with Holder", api.Authority{None: true, Holder: "a"}},
		{"None with all", api.Authority{None: true, Zones: allZones, Lines: allLines, Days: 127, To: lastOne, Daily: day, Holder: "a"}},
		{"no Zones", api.Authority{Lines: 1, Days: 1, To: 1439, Daily: day}},
		{"no Lines", api.Authority{Zones: 1, Days: 1, To: 1439, Daily: day}},
		{"no Days", api.Authority{Zones: 1, Lines: 1, To: 1439, Daily: day}},
		{"no Daily", api.Authority{Zones: 1, Lines: 1, Days: 1, To: 1439}},
		{"Lines with the bit 32", api.Authority{Zones: 1, Lines: 1<<32 | 1, Days: 1, To: 1439, Daily: day}},
		{"Days with the bit 7", api.Authority{Zones: 1, Lines: 1, Days: 129, To: 1439, Daily: day}},
		{"Holder with a capital letter", api.Authority{Zones: 1, Lines: 1, Days: 1, To: 1439, Daily: day, Holder: "Ann"}},
		{"Holder of 17 letters", api.Authority{Zones: 1, Lines: 1, Days: 1, To: 1439, Daily: day, Holder: "abcdefghijklmnopq"}},
		{"From -1", api.Authority{Zones: 1, Lines: 1, Days: 1, From: -1, To: 1439, Daily: day}},
		{"To above MaxMinute", api.Authority{Zones: 1, Lines: 1, Days: 127, To: lastOne + 1, Daily: day}},
		{"From above To", api.Authority{Zones: 1, Lines: 1, Days: 1, From: 5, To: 4, Daily: spans(4, 5)}},
		{"From too early for Daily", api.Authority{Zones: 1, Lines: 1, Days: 1, From: 4, To: 9, Daily: spans(5, 9)}},
		{"From too early for Days", api.Authority{Zones: 1, Lines: 1, Days: 2, From: 1439, To: 2879, Daily: day}},
		{"To too late for Daily", api.Authority{Zones: 1, Lines: 1, Days: 1, From: 5, To: 10, Daily: spans(5, 9)}},
		{"To too late for Days", api.Authority{Zones: 1, Lines: 1, Days: 1, To: 1440, Daily: day}},
		{"Days with a day that is not met", api.Authority{Zones: 1, Lines: 1, Days: 3, To: 1439, Daily: day}},
		{"Days with a day on which Daily is not met", api.Authority{Zones: 1, Lines: 1, Days: 3, From: 5, To: 1444, Daily: spans(5, 9)}},
		{"Daily with minutes that are not met", api.Authority{Zones: 1, Lines: 1, Days: 1, To: 5, Daily: spans(0, 6)}},
		{"Daily with a span that is not met", api.Authority{Zones: 1, Lines: 1, Days: 1, To: 5, Daily: spans(0, 5, 8, 9)}},
		{"adjacent spans", api.Authority{Zones: 1, Lines: 1, Days: 1, To: 9, Daily: spans(0, 4, 5, 9)}},
		{"spans that overlap", api.Authority{Zones: 1, Lines: 1, Days: 1, To: 9, Daily: spans(0, 5, 5, 9)}},
		{"equal spans", api.Authority{Zones: 1, Lines: 1, Days: 1, To: 9, Daily: spans(0, 9, 0, 9)}},
		{"spans that descend", api.Authority{Zones: 1, Lines: 1, Days: 1, To: 9, Daily: spans(7, 9, 0, 5)}},
		{"a span with From above To", api.Authority{Zones: 1, Lines: 1, Days: 1, To: 9, Daily: spans(0, 9, 12, 11)}},
		{"a span with From -1", api.Authority{Zones: 1, Lines: 1, Days: 1, To: 9, Daily: spans(-1, 9)}},
		{"a span with To Day", api.Authority{Zones: 1, Lines: 1, Days: 3, To: 1441, Daily: spans(0, 1440)}},
	} {
		if authority.Valid(c.a) || describedValid(c.a) {
			t.Errorf("the authority with %s is valid", c.name)
		}
	}
}

// P8.1: authorities in which one field is changed are valid, or are not, as the promise says.
func TestValidOfChanges(t *testing.T) {
	valid := 0
	for _, a := range written() {
		for _, b := range changes(a) {
			want := describedValid(b)
			if got := authority.Valid(b); got != want {
				t.Fatalf("Valid(%.200v) = %t", b, got)
			}
			if want {
				valid++
			}
		}
	}
	if valid < 100 {
		t.Errorf("only %d of the changed authorities are valid", valid)
	}
}

// inside returns which of the minutes of three days are in the set of a.
func inside(a api.Authority) string {
	var found [4320]byte
	for m := range found {
		found[m] = '0'
		if a.From <= m && m <= a.To && hasBit(a.Days, m/1440) && inDaily(a.Daily, m%1440) {
			found[m] = '1'
		}
	}
	return string(found[:])
}

// P8.1: of the authorities that denote the same set exactly one is valid.
func TestOneOfItsKind(t *testing.T) {
	ends := []int{0, 4, 5, 100, 1439, 1440, 1445, 1449, 2889, 4319}
	dailies := [][]api.Span{nil, spans(0, 1439), spans(5, 9), spans(0, 4, 6, 9), spans(0, 4, 5, 9), spans(0, 9), spans(5, 9, 100, 100), spans(1439, 1439), spans(0, 0, 1439, 1439), spans(0, 5, 1439, 1439)}
	found := map[string]api.Authority{}
	for _, from := range ends {
		for _, to := range ends {
			for days := range uint64(8) {
				for _, daily := range dailies {
					a := api.Authority{Zones: 6, Lines: 9, Days: days, From: from, To: to, Daily: daily, Holder: "ann"}
					b := described(setOf(a))
					if !authority.Valid(b) || inside(a) != inside(b) {
						t.Fatalf("%v has the set of %v; Valid = %t", a, b, authority.Valid(b))
					}
					found[inside(a)] = b
					if authority.Valid(a) && !same(a, b) {
						t.Fatalf("%v and %v are valid and have the same set", a, b)
					}
				}
			}
		}
	}
	if len(found) < 100 {
		t.Errorf("only %d sets", len(found))
	}
}

// P8.2: lists that are written out, the document's examples among them.
func TestWrittenLists(t *testing.T) {
	day := spans(0, 1439)
	for _, c := range []struct {
		texts []string
		want  api.Authority
	}{
		{nil, api.Authority{Zones: allZones, Lines: allLines, Days: 127, To: lastOne, Daily: day}},
		{[]string{"rides 0", "rides 5"}, api.Authority{Zones: allZones, Lines: allLines, Days: 127, To: lastOne, Daily: day}},
		{[]string{"time 0-1439", "daily 1380-300"}, api.Authority{Zones: allZones, Lines: allLines, Days: 1, To: 1439, Daily: spans(0, 300, 1380, 1439)}},
		{[]string{"time 0-1439", "days 1"}, none},
		{[]string{"zone 1,2", "zone 2,3", "line 31"}, api.Authority{Zones: 4, Lines: 1 << 31, Days: 127, To: lastOne, Daily: day}},
		{[]string{"zone 1", "zone 2"}, none},
		{[]string{"line 1", "line 2"}, none},
		{[]string{"days 1", "days 2"}, none},
		{[]string{"time 0-5", "time 6-9"}, none},
		{[]string{"time 0-5", "time 60000-60009"}, none},
		{[]string{"time 0-5", "time 5-9"}, api.Authority{Zones: allZones, Lines: allLines, Days: 1, From: 5, To: 5, Daily: spans(5, 5)}},
		{[]string{"daily 0-5", "daily 6-9"}, none},
		{[]string{"holder ann", "holder bob"}, none},
		{[]string{"holder ann", "holder bob", "holder bob"}, none},
		{[]string{"holder ann", "rides 1", "holder ann"}, api.Authority{Zones: allZones, Lines: allLines, Days: 127, To: lastOne, Daily: day, Holder: "ann"}},
		{[]string{"time 1439-1440"}, api.Authority{Zones: allZones, Lines: allLines, Days: 3, From: 1439, To: 1440, Daily: spans(0, 0, 1439, 1439)}},
		{[]string{"time 1439-2878"}, api.Authority{Zones: allZones, Lines: allLines, Days: 3, From: 1439, To: 2878, Daily: day}},
		{[]string{"time 1439-2877"}, api.Authority{Zones: allZones, Lines: allLines, Days: 3, From: 1439, To: 2877, Daily: spans(0, 1437, 1439, 1439)}},
		{[]string{"daily 5-9"}, api.Authority{Zones: allZones, Lines: allLines, Days: 127, From: 5, To: 46603*1440 + 9, Daily: spans(5, 9)}},
		{[]string{"daily 545-600"}, api.Authority{Zones: allZones, Lines: allLines, Days: 127, From: 545, To: 46602*1440 + 600, Daily: spans(545, 600)}},
		{[]string{"daily 300-299"}, api.Authority{Zones: allZones, Lines: allLines, Days: 127, To: lastOne, Daily: day}},
		{[]string{"days 5"}, api.Authority{Zones: allZones, Lines: allLines, Days: 32, From: 7200, To: 46597*1440 + 1439, Daily: day}},
		{[]string{"time 10-10090", "daily 0-9"}, api.Authority{Zones: allZones, Lines: allLines, Days: 127, From: 1440, To: 10089, Daily: spans(0, 9)}},
		{[]string{"time 10-10090", "daily 0-10", "days 0"}, api.Authority{Zones: allZones, Lines: allLines, Days: 1, From: 10, To: 10090, Daily: spans(0, 10)}},
	} {
		if a, e := authority.Of(parse(t, c.texts...)); !same(a, c.want) || e != api.OK {
			t.Errorf("Of(%q) = %v, %d, want %v", c.texts, a, e, c.want)
		}
	}
}

// P8.2: lists that are too long come before predicates that are not valid, and both return no authority.
func TestOfErrors(t *testing.T) {
	good, wrong := api.Predicate{Kind: api.PredZone, Mask: 1}, api.Predicate{Kind: api.PredZone}
	with := func(size, place int) []api.Predicate {
		l := slices.Repeat([]api.Predicate{good}, size)
		l[place] = wrong
		return l
	}
	for _, c := range []struct {
		l    []api.Predicate
		want api.Errno
	}{
		{slices.Repeat([]api.Predicate{good}, 65), api.ErrLimit},
		{slices.Repeat([]api.Predicate{good}, 1000), api.ErrLimit},
		{make([]api.Predicate, 65), api.ErrLimit},
		{with(65, 0), api.ErrLimit},
		{with(65, 64), api.ErrLimit},
		{make([]api.Predicate, 64), api.ErrForm},
		{with(64, 0), api.ErrForm},
		{with(64, 63), api.ErrForm},
		{with(1, 0), api.ErrForm},
		{[]api.Predicate{{Kind: 8}}, api.ErrForm},
		{[]api.Predicate{{Kind: api.PredRides, Number: -1}}, api.ErrForm},
		{[]api.Predicate{{Kind: api.PredRides, Mask: 1}}, api.ErrForm},
		{[]api.Predicate{{Kind: api.PredTime, From: 1}}, api.ErrForm},
		{[]api.Predicate{{Kind: api.PredTime, From: -1}}, api.ErrForm},
		{[]api.Predicate{{Kind: api.PredDaily, To: 1440}}, api.ErrForm},
		{[]api.Predicate{{Kind: api.PredLine, Mask: 1 << 32}}, api.ErrForm},
		{[]api.Predicate{{Kind: api.PredHolder, Name: "Ann"}}, api.ErrForm},
		{[]api.Predicate{{Kind: api.PredDays, Mask: 1}, {Kind: api.PredDays, Mask: 2}, wrong}, api.ErrForm},
	} {
		if a, e := authority.Of(c.l); !same(a, api.Authority{}) || e != c.want {
			t.Errorf("Of(%.100v) = %v, %d, want %d", c.l, a, e, c.want)
		}
	}
	if a, e := authority.Of(slices.Repeat([]api.Predicate{good}, 64)); a.Zones != 1 || e != api.OK {
		t.Errorf("Of 64 predicates = %v, %d", a, e)
	}
}

// P8.2: all lists of up to two predicates of all kinds, and of three of some.
func TestOf(t *testing.T) {
	check := func(l []api.Predicate) {
		a, e := authority.Of(l)
		if want := describedOf(l); !same(a, want) || e != api.OK || !authority.Valid(a) {
			t.Fatalf("Of(%v) = %v, %d, want %v; Valid = %t", l, a, e, want, authority.Valid(a))
		}
	}
	for size := range 3 {
		eachList(size, various(t), check)
	}
	eachList(3, parse(t, "days 0", "days 1,3", "time 1000-14500", "time 14400-30000", "daily 100-300", "daily 300-100", "daily 1380-300", "daily 1439-1439"), check)
}

// P8.2: stretches of up to 25 days that begin and end before, in and behind the daily span, with single days of the week, pairs of them, and all but one.
func TestStretches(t *testing.T) {
	var masks []uint64
	for day := range 7 {
		masks = append(masks, 1<<day, 1<<day|1, 127-1<<day)
	}
	masks = append(masks, 127)
	ends := []int{0, 600, 650, 700, 701, 1439}
	for _, begin := range []int{0, 3, 46580} {
		for length := range 25 {
			if begin+length > 46602 || length > 3 && length < 6 || length > 9 && length < 13 {
				continue
			}
			for i, mask := range masks {
				for j, first := range ends {
					from, to := begin*1440+first, (begin+length)*1440+ends[(i+j)%6]
					if from > to {
						continue
					}
					l := []api.Predicate{{Kind: api.PredDays, Mask: mask}, {Kind: api.PredTime, From: from, To: to}, {Kind: api.PredDaily, From: 600, To: 700}}
					if a, e := authority.Of(l); !same(a, describedOf(l)) || e != api.OK {
						t.Fatalf("Of(%v) = %v, %d, want %v", l, a, e, describedOf(l))
					}
				}
			}
		}
	}
}

// P8.2: lists of up to twelve predicates on minutes that are chosen by lot, always the same ones.
func TestOfByLot(t *testing.T) {
	r := rand.New(rand.NewPCG(8, 2))
	for range 3000 {
		from := r.IntN(30000)
		l := []api.Predicate{{Kind: api.PredTime, From: from, To: from + r.IntN(30000)}, {Kind: api.PredDays, Mask: r.Uint64N(127) + 1}}
		for range r.IntN(11) {
			begin := r.IntN(1440)
			l = append(l, api.Predicate{Kind: api.PredDaily, From: begin, To: (begin + 1100 + r.IntN(339)) % 1440})
		}
		a, e := authority.Of(l)
		if want := describedOf(l); !same(a, want) || e != api.OK || !authority.Valid(a) {
			t.Fatalf("Of(%v) = %v, %d, want %v; Valid = %t", l, a, e, want, authority.Valid(a))
		}
	}
}

// P8.2: 64 predicates that leave 65 spans.
func TestManySpans(t *testing.T) {
	var l []api.Predicate
	for i := range 64 {
		l = append(l, api.Predicate{Kind: api.PredDaily, From: 20*i + 15, To: 20*i + 10})
	}
	a, e := authority.Of(l)
	if want := describedOf(l); !same(a, want) || e != api.OK || len(a.Daily) != 65 || !authority.Valid(a) {
		t.Errorf("Of 64 predicates has %d spans, %d", len(a.Daily), e)
	}
	slices.Reverse(l)
	if b, _ := authority.Of(l); !same(a, b) {
		t.Errorf("%v, and in the reversed order %v", a, b)
	}
}

// P8.3: all pairs of valid authorities.
func TestMeet(t *testing.T) {
	l := authorities(t)
	if len(l) > 90 {
		l = append(l[:30:30], l[len(l)-60:]...)
	}
	for _, a := range l {
		for _, b := range l {
			if got, want := authority.Meet(a, b), described(bothOf(setOf(a), setOf(b))); !same(got, want) || !authority.Valid(got) {
				t.Fatalf("Meet(%.200v, %.200v) = %.200v, want %.200v", a, b, got, want)
			}
		}
	}
}

// P8.3: what a list and another one permit together is what the list of both permits.
func TestMeetOfLists(t *testing.T) {
	l := various(t)
	full := authority.Full()
	for i, p := range l {
		for _, q := range l {
			both := []api.Predicate{p, q, l[(i+7)%len(l)]}
			a, _ := authority.Of(both[:1])
			b, _ := authority.Of(both[1:])
			want, _ := authority.Of(both)
			if got := authority.Meet(a, b); !same(got, want) {
				t.Fatalf("Meet of those of %v and %v = %v, want %v", both[:1], both[1:], got, want)
			}
			if !same(authority.Meet(a, full), a) || !same(authority.Meet(none, a), none) || !same(authority.Meet(a, none), none) {
				t.Fatalf("Meet of %v with Full or None", a)
			}
		}
	}
}

// P8.3: with an authority that is not valid, Meet returns None, and Contains false.
func TestMeetOfInvalid(t *testing.T) {
	all := contexts(minutes()...)
	for _, a := range written() {
		for _, b := range changes(a) {
			valid := authority.Valid(b)
			if got := authority.Meet(a, b); !same(got, describedMeet(a, b)) {
				t.Fatalf("Meet(%.200v, %.200v) = %.200v", a, b, got)
			}
			if got := authority.Meet(b, a); !same(got, describedMeet(b, a)) {
				t.Fatalf("Meet(%.200v, %.200v) = %.200v", b, a, got)
			}
			if !valid && !same(authority.Meet(b, b), none) {
				t.Fatalf("Meet of %.200v with itself", b)
			}
			for _, c := range all[7:20] {
				if !valid && authority.Contains(b, c) {
					t.Fatalf("Contains(%.200v, %v)", b, c)
				}
			}
		}
	}
	invalid := authority.Full()
	invalid.To++
	for _, c := range all {
		if authority.Contains(invalid, c) {
			t.Fatalf("Contains(%v, %v)", invalid, c)
		}
	}
}

// P8.3: contexts inside and outside of valid authorities, and contexts that are not valid.
func TestContains(t *testing.T) {
	all := contexts(minutes()...)
	inside := 0
	for _, a := range authorities(t) {
		for _, c := range all {
			want := inSet(a, c)
			if got := authority.Contains(a, c); got != want {
				t.Fatalf("Contains(%.200v, %v) = %t", a, c, got)
			}
			if want {
				inside++
			}
		}
	}
	if inside < 1000 {
		t.Errorf("only %d contexts are inside", inside)
	}
}

// P8.3: each zone, each line, and each minute of some days.
func TestContainsOfAll(t *testing.T) {
	a, _ := authority.Of(parse(t, "zone 0,2,31,32,63", "line 0,3,30,31", "daily 1380-300", "days 1,2", "time 1500-13000"))
	for zone := -2; zone < 70; zone++ {
		for line := -2; line < 70; line++ {
			c := api.Context{Zone: zone, Line: line, Minute: 1500, Holder: "ann"}
			if got := authority.Contains(a, c); got != inSet(a, c) {
				t.Fatalf("Contains(%v, %v) = %t", a, c, got)
			}
		}
	}
	for m := -2000; m < 16000; m++ {
		c := api.Context{Zone: 2, Line: 3, Minute: m, Holder: "ann"}
		if got := authority.Contains(a, c); got != inSet(a, c) {
			t.Fatalf("Contains(%v, %v) = %t", a, c, got)
		}
	}
}

// P8.4: the contexts in Of(l) are those for which all predicates of l hold.
func TestContainsIsHolds(t *testing.T) {
	all := contexts(minutes()...)
	among := append(various(t), parse(t, "time 100-15000", "daily 99-101")...)
	for size := range 3 {
		eachList(size, among, func(l []api.Predicate) {
			a, _ := authority.Of(l)
			for _, c := range all {
				_, want := holds.All(l, c)
				if got := authority.Contains(a, c); got != (want && holds.Valid(c)) {
					t.Fatalf("Contains(Of(%v), %v) = %t", l, c, got)
				}
			}
		})
	}
}

// P8.4: Meet is commutative and associative, and Meet of an authority with itself is the authority.
func TestMeetLaws(t *testing.T) {
	l := authorities(t)
	for _, a := range l {
		if !same(authority.Meet(a, a), a) {
			t.Fatalf("Meet of %.200v with itself = %.200v", a, authority.Meet(a, a))
		}
	}
	few := written()[:11]
	for i := 13; i < len(l); i += 3 {
		few = append(few, l[i])
	}
	for _, a := range few {
		for _, b := range few {
			both := authority.Meet(a, b)
			if !same(both, authority.Meet(b, a)) {
				t.Fatalf("Meet of %v and %v in both orders", a, b)
			}
			for _, c := range few {
				if !same(authority.Meet(both, c), authority.Meet(a, authority.Meet(b, c))) {
					t.Fatalf("Meet of %v, %v and %v", a, b, c)
				}
			}
		}
	}
}

// R3: arguments are not modified, nor what stands behind them, and results share no memory with them or with one another.
func TestNoSharedMemory(t *testing.T) {
	fill := func(l []api.Span) {
		for i := range l[:cap(l)] {
			l[:cap(l)][i] = api.Span{From: 7, To: 7}
		}
	}
	fill(authority.Full().Daily)
	want := api.Authority{Zones: allZones, Lines: allLines, Days: 127, To: lastOne, Daily: spans(0, 1439)}
	if a := authority.Full(); !same(a, want) {
		t.Errorf("Full() became %v", a)
	}
	l := parse(t, "daily 1380-300", "rides 1", "days 0,1")
	before := slices.Clone(l)
	first, _ := authority.Of(l[:1])
	again, _ := authority.Of(l[:1])
	fill(first.Daily)
	if !slices.Equal(l, before) || !slices.Equal(again.Daily, spans(0, 300, 1380, 1439)) {
		t.Errorf("Of modified %v or its earlier result %v", l, again)
	}
	memory := append(spans(0, 300, 1380, 1439), spans(9, 8, 7, 6)...)
	unchanged := slices.Clone(memory)
	a := authority.Full()
	a.To, a.Daily = 46603*1440+300, memory[:2]
	for _, b := range []api.Authority{a, authority.Full(), again} {
		if !authority.Valid(a) || !authority.Contains(a, api.Context{Holder: "ann"}) {
			t.Fatalf("%v is not valid, or does not contain its first context", a)
		}
		kept := slices.Clone(b.Daily)
		fill(authority.Meet(a, b).Daily)
		fill(authority.Meet(b, a).Daily)
		if !slices.Equal(memory, unchanged) || !slices.Equal(b.Daily, kept) {
			t.Fatalf("Meet shares memory with %v or %v", memory, b)
		}
	}
}
