package holds_test

import (
	"math"
	"regexp"
	"slices"
	"strings"
	"testing"

	"macaroon/api"
	"macaroon/holds"
	"macaroon/predicate"
)

var nameForm = regexp.MustCompile(`^[a-z]{1,16}$`)

// ann is a valid context: its minute is the minute 100 of day 10, which is day 3 of the week.
var ann = api.Context{Zone: 5, Line: 3, Minute: 14500, Holder: "ann"}

// describedContext reports whether c is valid as P7.1 says.
func describedContext(c api.Context) bool {
	return c.Zone >= 0 && c.Zone <= 63 && c.Line >= 0 && c.Line <= 31 && c.Minute >= 0 && c.Minute <= 67108864 && nameForm.MatchString(c.Holder)
}

// described reports whether p holds for c as P7.2 says.
func described(p api.Predicate, c api.Context) bool {
	if !predicate.Valid(p) || !describedContext(c) {
		return false
	}
	m := math.Mod(float64(c.Minute), 1440)
	switch p.Kind {
	case 1:
		return slices.Contains(bitsOf(p.Mask), c.Zone)
	case 2:
		return slices.Contains(bitsOf(p.Mask), c.Line)
	case 3:
		day := math.Mod(math.Floor(float64(c.Minute)/1440), 7)
		return slices.Contains(bitsOf(p.Mask), int(day))
	case 4:
		return !(c.Minute < p.From) && !(c.Minute > p.To)
	case 5:
		within := m >= float64(p.From) && m <= float64(p.To)
		around := m >= float64(p.From) || m <= float64(p.To)
		return p.From <= p.To && within || p.From > p.To && around
	case 6:
		return strings.Compare(p.Name, c.Holder) == 0
	}
	return p.Kind == 7
}

// describedAll returns what P7.3 says of l and c.
func describedAll(l []api.Predicate, c api.Context) (int, bool) {
	i := slices.IndexFunc(l, func(p api.Predicate) bool { return !described(p, c) })
	return max(i, 0), i < 0
}

// bitsOf returns the numbers of the bits of mask that are set.
func bitsOf(mask uint64) []int {
	var l []int
	for i := 0; mask > 0; i++ {
		if mask%2 == 1 {
			l = append(l, i)
		}
		mask /= 2
	}
	return l
}

// check checks what Holds says of p and c. It ends the test at the first wrong result, since most mistakes make very many of them wrong.
func check(t *testing.T, p api.Predicate, c api.Context) {
	t.Helper()
	if ok := holds.Holds(p, c); ok != described(p, c) {
		t.Fatalf("Holds(%.60v, %.60v) = %t", p, c, ok)
	}
}

func checkAll(t *testing.T, l []api.Predicate, c api.Context) {
	t.Helper()
	i, ok := holds.All(l, c)
	if want, wantOK := describedAll(l, c); i != want || ok != wantOK {
		t.Fatalf("All(%v, %v) = %d, %t, want %d, %t", l, c, i, ok, want, wantOK)
	}
}

func parse(t *testing.T, s string) api.Predicate {
	t.Helper()
	p, e := predicate.Parse(s)
	if e != api.OK {
		t.Fatalf("%q is no predicate: %d", s, e)
	}
	return p
}

// around returns numbers at both ends of the range from 0 to most, inside and outside, and some that are far from it.
func around(most int) []int {
	l := []int{math.MinInt, math.MinInt + 1, -1 << 32, -1440, -64, -1, 0, 1, most / 2, most - 1, most, most + 1, most + 2, 2*most + 2, 64 + most + 1, 1<<32 + 1, 1 << 48, 1 << 62, math.MaxInt}
	slices.Sort(l)
	return slices.Compact(l)
}

// names returns names, and strings that are none.
func names() []string {
	l := []string{"", "a", "z", "ann", "bob", "anna", "an", "nn", "A", "Ann", "anN", "a1", "1", "a b", " a", "a ", "a-b", "a,b", "a\n", "\n", "\x00", "a\x00", "`", "{", "@", "[", "é", "\xe9", "añb", "\xff", "ａ", "ſ"}
	for n := 1; n <= 18; n++ {
		l = append(l, strings.Repeat("a", n), strings.Repeat("z", n), "abcdefghijklmnopqr"[:n])
	}
	return append(l, strings.Repeat("a", 256), strings.Repeat("a", 257), strings.Repeat("m", 1024), strings.Repeat("m", 1025))
}

// validContexts returns contexts of different zones, lines, days, minutes and holders, those at the limits among them.
func validContexts() []api.Context {
	var l []api.Context
	for _, zone := range []int{0, 5, 63} {
		for _, line := range []int{0, 3, 31} {
			for _, minute := range []int{0, 100, 1439, 1440, 10079, 10080, 14500, 67108864} {
				for _, holder := range []string{"a", "ann", "abcdefghijklmnop"} {
					l = append(l, api.Context{Zone: zone, Line: line, Minute: minute, Holder: holder})
				}
			}
		}
	}
	return l
}

// invalidContexts returns contexts in which one field is wrong, or all of them are.
func invalidContexts() []api.Context {
	l := []api.Context{{}, {Zone: -1, Line: -1, Minute: -1}, {Zone: 64, Line: 32, Minute: 67108865, Holder: "A"}}
	for _, n := range around(api.MaxZone) {
		l = append(l, api.Context{Zone: n, Line: 3, Minute: 14500, Holder: "ann"})
	}
	for _, n := range around(api.MaxLine) {
		l = append(l, api.Context{Zone: 5, Line: n, Minute: 14500, Holder: "ann"})
	}
	for _, n := range around(api.MaxMinute) {
		l = append(l, api.Context{Zone: 5, Line: 3, Minute: n, Holder: "ann"})
	}
	for _, s := range names() {
		l = append(l, api.Context{Zone: 5, Line: 3, Minute: 14500, Holder: s})
	}
	return slices.DeleteFunc(l, describedContext)
}

// widest returns a predicate of each kind that holds for every valid context with the holder ann.
func widest() []api.Predicate {
	return []api.Predicate{
		{Kind: api.PredZone, Mask: math.MaxUint64}, {Kind: api.PredLine, Mask: math.MaxUint32}, {Kind: api.PredDays, Mask: 127},
		{Kind: api.PredTime, To: 67108864}, {Kind: api.PredDaily, To: 1439}, {Kind: api.PredDaily, From: 1, To: 0}, {Kind: api.PredHolder, Name: "ann"}, {Kind: api.PredRides},
	}
}

// various returns predicates of all kinds, most of which hold for some of validContexts, and some that are not valid.
func various() []api.Predicate {
	return append(widest(), []api.Predicate{
		{Kind: api.PredZone, Mask: 1 << 5}, {Kind: api.PredZone, Mask: 1<<63 | 1}, {Kind: api.PredLine, Mask: 1 << 3}, {Kind: api.PredLine, Mask: 1<<31 | 1},
		{Kind: api.PredDays, Mask: 1}, {Kind: api.PredDays, Mask: 8}, {Kind: api.PredTime, From: 1440, To: 14500}, {Kind: api.PredTime, From: 67108864, To: 67108864},
		{Kind: api.PredDaily, From: 100, To: 100}, {Kind: api.PredDaily, From: 1439, To: 99}, {Kind: api.PredHolder, Name: "a"}, {Kind: api.PredRides, Number: 1000000},
		{}, {Kind: 8, Mask: 1}, {Kind: api.PredZone}, {Kind: api.PredRides, Number: -1},
	}...)
}

// eachList calls f for every list of size predicates that are among the given ones.
func eachList(size int, among []api.Predicate, f func(l []api.Predicate)) {
	l := make([]api.Predicate, size)
	var extend func(i int)
	extend = func(i int) {
		if i == size {
			f(l)
			return
		}
		for _, p := range among {
			l[i] = p
			extend(i + 1)
		}
	}
	extend(0)
}

// P7.1: contexts that are written out, those at the limits and right behind them among them.
func TestWrittenContexts(t *testing.T) {
	for _, c := range []struct {
		name string
		c    api.Context
		want bool
	}{
		{"ordinary", ann, true},
		{"all at the lower limits", api.Context{Holder: "a"}, true},
		{"all at the upper limits", api.Context{Zone: 63, Line: 31, Minute: 67108864, Holder: "zzzzzzzzzzzzzzzz"}, true},
		{"zero", api.Context{}, false},
		{"Zone -1", api.Context{Zone: -1, Holder: "a"}, false},
		{"Zone 64", api.Context{Zone: 64, Holder: "a"}, false},
		{"Line -1", api.Context{Line: -1, Holder: "a"}, false},
		{"Line 32", api.Context{Line: 32, Holder: "a"}, false},
		{"Line 63", api.Context{Line: 63, Holder: "a"}, false},
		{"Minute -1", api.Context{Minute: -1, Holder: "a"}, false},
		{"Minute MaxMinute + 1", api.Context{Minute: 67108865, Holder: "a"}, false},
		{"no Holder", api.Context{Zone: 5, Line: 3, Minute: 14500}, false},
		{"Holder of 17 letters", api.Context{Holder: "abcdefghijklmnopq"}, false},
		{"Holder with a capital letter", api.Context{Holder: "aNn"}, false},
		{"Holder with a digit", api.Context{Holder: "ann1"}, false},
		{"Holder with a blank", api.Context{Holder: "ann "}, false},
		{"Holder with a line feed", api.Context{Holder: "ann\n"}, false},
		{"Holder with a letter that is not from a to z", api.Context{Holder: "zoé"}, false},
	} {
		if holds.Valid(c.c) != c.want {
			t.Errorf("Valid of the context %s is %t", c.name, !c.want)
		}
	}
}

// P7.1: every product of numbers and names inside and outside their limits.
func TestValid(t *testing.T) {
	holders := []string{"", "a", "ann", "abcdefghijklmnop", "abcdefghijklmnopq", "A", "a1"}
	for _, zone := range around(api.MaxZone) {
		for _, line := range around(api.MaxLine) {
			for _, minute := range around(api.MaxMinute) {
				for _, holder := range holders {
					c := api.Context{Zone: zone, Line: line, Minute: minute, Holder: holder}
					if ok := holds.Valid(c); ok != describedContext(c) {
						t.Fatalf("Valid(%v) = %t", c, ok)
					}
				}
			}
		}
	}
	for n := -200; n <= 200; n++ {
		for _, c := range []api.Context{{Zone: n, Holder: "a"}, {Line: n, Holder: "a"}, {Minute: n, Holder: "a"}, {Minute: 67108864 + n, Holder: "a"}} {
			if ok := holds.Valid(c); ok != describedContext(c) {
				t.Fatalf("Valid(%v) = %t", c, ok)
			}
		}
	}
}

// P7.1: names and strings that are none, and every byte alone, between letters and at the ends.
func TestValidOfHolders(t *testing.T) {
	l := names()
	for x := range 256 {
		s := string([]byte{byte(x)})
		l = append(l, s, s+"a", "a"+s, "a"+s+"a", strings.Repeat("a", 15)+s, strings.Repeat("a", 16)+s)
	}
	for _, s := range l {
		if ok := holds.Valid(api.Context{Holder: s}); ok != nameForm.MatchString(s) {
			t.Errorf("Valid with the Holder %.40q = %t", s, ok)
		}
	}
}

// P7.2: predicates and rides that are written out, the document's examples among them.
func TestWrittenRides(t *testing.T) {
	for _, c := range []struct {
		text string
		c    api.Context
		want bool
	}{
		{"zone 1,5", ann, true},
		{"zone 3", ann, false},
		{"zone 0,1,2,3,4,6", ann, false},
		{"zone 0", api.Context{Holder: "a"}, true},
		{"zone 63", api.Context{Zone: 63, Holder: "a"}, true},
		{"zone 31", api.Context{Zone: 63, Holder: "a"}, false},
		{"line 3", ann, true},
		{"line 5", ann, false},
		{"line 0", api.Context{Zone: 9, Holder: "a"}, true},
		{"line 31", api.Context{Line: 31, Holder: "a"}, true},
		{"line 0,30", api.Context{Line: 31, Holder: "a"}, false},
		{"days 1", api.Context{Minute: 1439, Holder: "a"}, false},
		{"days 0", api.Context{Minute: 1439, Holder: "a"}, true},
		{"days 1", api.Context{Minute: 1440, Holder: "a"}, true},
		{"days 6", api.Context{Minute: 10079, Holder: "a"}, true},
		{"days 0", api.Context{Minute: 10080, Holder: "a"}, true},
		{"days 3", ann, true},
		{"days 0,1,2,4,5,6", ann, false},
		{"days 4", api.Context{Minute: 67108864, Holder: "a"}, true},
		{"days 0,1,2,3,5,6", api.Context{Minute: 67108864, Holder: "a"}, false},
		{"time 100-200", api.Context{Minute: 99, Holder: "a"}, false},
		{"time 100-200", api.Context{Minute: 100, Holder: "a"}, true},
		{"time 100-200", api.Context{Minute: 200, Holder: "a"}, true},
		{"time 100-200", api.Context{Minute: 201, Holder: "a"}, false},
		{"time 100-200", ann, false},
		{"time 0-0", api.Context{Holder: "a"}, true},
		{"time 0-67108864", api.Context{Minute: 67108864, Holder: "a"}, true},
		{"time 0-67108863", api.Context{Minute: 67108864, Holder: "a"}, false},
		{"daily 1380-300", api.Context{Minute: 10, Holder: "a"}, true},
		{"daily 1380-300", api.Context{Minute: 1450, Holder: "a"}, true},
		{"daily 1380-300", api.Context{Minute: 1379, Holder: "a"}, false},
		{"daily 1380-300", api.Context{Minute: 1380, Holder: "a"}, true},
		{"daily 1380-300", api.Context{Minute: 1439, Holder: "a"}, true},
		{"daily 1380-300", api.Context{Minute: 1440, Holder: "a"}, true},
		{"daily 1380-300", api.Context{Minute: 1740, Holder: "a"}, true},
		{"daily 1380-300", api.Context{Minute: 1741, Holder: "a"}, false},
		{"daily 300-1380", api.Context{Minute: 10, Holder: "a"}, false},
		{"daily 300-1380", api.Context{Minute: 1740, Holder: "a"}, true},
		{"daily 100-100", ann, true},
		{"daily 0-99", ann, false},
		{"daily 101-1439", ann, false},
		{"daily 101-100", ann, true},
		{"daily 100-99", ann, true},
		{"daily 101-99", ann, false},
		{"daily 544-544", api.Context{Minute: 67108864, Holder: "a"}, true},
		{"holder ann", ann, true},
		{"holder an", ann, false},
		{"holder anna", ann, false},
		{"holder bob", ann, false},
		{"rides 0", ann, true},
		{"rides 1000000", ann, true},
	} {
		if holds.Holds(parse(t, c.text), c.c) != c.want {
			t.Errorf("%q holds for %v: %t", c.text, c.c, !c.want)
		}
	}
}

// P7.2: each zone and each line with masks of one bit, of two, and of all but one.
func TestZonesAndLines(t *testing.T) {
	for bit := range 64 {
		for other := range 64 {
			for n := range 64 {
				for _, mask := range []uint64{1<<bit | 1<<other, ^(1<<bit | 1<<other)} {
					check(t, api.Predicate{Kind: api.PredZone, Mask: mask}, api.Context{Zone: n, Line: other % 32, Minute: 14500, Holder: "ann"})
					if n < 32 {
						check(t, api.Predicate{Kind: api.PredLine, Mask: mask & math.MaxUint32}, api.Context{Zone: other, Line: n, Minute: 14500, Holder: "ann"})
					}
				}
			}
		}
	}
}

// P7.2: each mask of days with the first, a middle and the last minute of each of the first and last days.
func TestDays(t *testing.T) {
	for mask := range uint64(129) {
		for day := range 46604 {
			if day > 21 && day < 46580 {
				continue
			}
			for _, m := range []int{0, 1, 543, 544, 545, 1438, 1439} {
				check(t, api.Predicate{Kind: api.PredDays, Mask: mask}, api.Context{Minute: day*1440 + m, Holder: "ann"})
			}
		}
	}
}

// P7.2: minutes before, at, between and behind the ends of spans.
func TestTimes(t *testing.T) {
	l := []int{-1, 0, 1, 2, 99, 100, 101, 1439, 1440, 1441, 14499, 14500, 14501, 67108862, 67108863, 67108864, 67108865}
	for _, from := range l {
		for _, to := range l {
			for _, minute := range l {
				check(t, api.Predicate{Kind: api.PredTime, From: from, To: to}, api.Context{Zone: 5, Line: 3, Minute: minute, Holder: "ann"})
			}
		}
	}
}

// P7.2: every minute of the day with spans that do and do not go past midnight, on the first, a later and the last day.
func TestDailies(t *testing.T) {
	l := []int{-1, 0, 1, 100, 300, 543, 544, 545, 1380, 1438, 1439, 1440}
	for _, from := range l {
		for _, to := range l {
			for m := range 1440 {
				for _, day := range []int{0, 1, 10, 46602, 46603} {
					check(t, api.Predicate{Kind: api.PredDaily, From: from, To: to}, api.Context{Minute: day*1440 + m, Holder: "ann"})
				}
			}
		}
	}
	for from := range 1440 {
		for _, to := range []int{0, from - 1, from, from + 1, 1439} {
			for _, m := range []int{0, 1, from - 1, from, from + 1, 1438, 1439} {
				check(t, api.Predicate{Kind: api.PredDaily, From: from, To: to}, api.Context{Minute: 1440 + m, Holder: "ann"})
			}
		}
	}
}

// P7.2: names with each other, and strings that are none on both sides.
func TestHolders(t *testing.T) {
	for _, name := range names() {
		for _, holder := range names() {
			check(t, api.Predicate{Kind: api.PredHolder, Name: name}, api.Context{Zone: 5, Line: 3, Minute: 14500, Holder: holder})
		}
	}
}

// P7.2: predicates of all kinds with contexts that differ in all fields.
func TestAllKinds(t *testing.T) {
	for _, p := range various() {
		for _, c := range validContexts() {
			check(t, p, c)
		}
	}
	for _, p := range widest() {
		c := ann
		c.Zone, c.Line, c.Minute = 63, 31, 67108864
		if !holds.Holds(p, ann) || !holds.Holds(p, c) {
			t.Errorf("%v does not hold", p)
		}
	}
}

// P7.2: no predicate holds for a context that is not valid, whatever field is wrong and whether or not the predicate looks at it.
func TestInvalidContexts(t *testing.T) {
	for _, c := range invalidContexts() {
		for _, p := range append(various(), api.Predicate{Kind: api.PredHolder, Name: c.Holder}) {
			if holds.Holds(p, c) {
				t.Fatalf("%v holds for %.80v", p, c)
			}
		}
	}
}

// P7.2: predicates that are not valid do not hold, also if their fields fit the context: unknown kinds, fields of other kinds, and fields outside their limits.
func TestInvalidPredicates(t *testing.T) {
	l := []api.Predicate{
		{Kind: api.PredLine, Mask: 1<<32 | 1<<3}, {Kind: api.PredLine, Mask: math.MaxUint64}, {Kind: api.PredDays, Mask: 1<<7 | 127},
		{Kind: api.PredTime, From: -1, To: 14500}, {Kind: api.PredTime, To: 67108865}, {Kind: api.PredTime, From: 14501, To: 14500}, {Kind: api.PredTime, From: 2, To: 1},
		{Kind: api.PredDaily, From: -1, To: 1439}, {Kind: api.PredDaily, To: 1440}, {Kind: api.PredDaily, From: 1440, To: 100}, {Kind: api.PredDaily, From: 100, To: -1},
		{Kind: api.PredRides, Number: -1}, {Kind: api.PredRides, Number: 1000001},
	}
	for _, kind := range []int{math.MinInt, -8, -7, -1, 0, 8, 9, 64, 255, 256, 257, 263, 1<<32 + 1, 1<<48 + 7, math.MaxInt} {
		for _, p := range append(widest(), api.Predicate{}) {
			p.Kind = kind
			l = append(l, p)
		}
	}
	for _, p := range widest() {
		further := []api.Predicate{p, p, p, p, p}
		further[0].Mask ^= 1 << 63
		further[1].From -= 2
		further[2].To += 67108865
		further[3].Name += "ann"
		further[4].Number += 1
		for _, q := range further {
			if !predicate.Valid(q) {
				l = append(l, q)
			}
		}
	}
	for _, p := range l {
		if predicate.Valid(p) {
			t.Fatalf("%v is valid", p)
		}
		for _, c := range append(validContexts(), ann) {
			if holds.Holds(p, c) {
				t.Fatalf("%v holds for %v", p, c)
			}
		}
	}
}

// P7.3: lists that are written out, with the index of the first predicate that does not hold.
func TestWrittenLists(t *testing.T) {
	for _, c := range []struct {
		texts []string
		want  int
		ok    bool
	}{
		{nil, 0, true},
		{[]string{"zone 5"}, 0, true},
		{[]string{"zone 4"}, 0, false},
		{[]string{"zone 4", "line 3"}, 0, false},
		{[]string{"zone 4", "line 4"}, 0, false},
		{[]string{"zone 5", "line 4"}, 1, false},
		{[]string{"zone 5", "line 4", "holder bob"}, 1, false},
		{[]string{"zone 5", "line 4", "line 3"}, 1, false},
		{[]string{"zone 5", "zone 5", "zone 4"}, 2, false},
		{[]string{"zone 1,5", "line 3", "days 3", "time 14500-14500", "daily 1380-300", "holder ann", "rides 0"}, 0, true},
		{[]string{"zone 1,5", "line 3", "days 3", "time 14500-14500", "daily 1380-300", "holder bob", "rides 0"}, 5, false},
	} {
		var l []api.Predicate
		for _, s := range c.texts {
			l = append(l, parse(t, s))
		}
		if i, ok := holds.All(l, ann); i != c.want || ok != c.ok {
			t.Errorf("All(%q) = %d, %t", c.texts, i, ok)
		}
	}
}

// P7.3: no predicates hold for every context, also for those that are not valid.
func TestNoPredicates(t *testing.T) {
	for _, c := range append(invalidContexts(), validContexts()...) {
		for _, l := range [][]api.Predicate{nil, {}} {
			if i, ok := holds.All(l, c); i != 0 || !ok {
				t.Fatalf("All of no predicates for %.80v = %d, %t", c, i, ok)
			}
		}
	}
}

// P7.3: all lists of up to three predicates, valid or not, with valid contexts and with ones that are not.
func TestLists(t *testing.T) {
	contexts := append(validContexts()[:20:20], ann, api.Context{}, api.Context{Zone: 64, Holder: "ann"}, api.Context{Minute: -1, Holder: "a"})
	for size := range 4 {
		eachList(size, various(), func(l []api.Predicate) {
			for _, c := range contexts {
				checkAll(t, l, c)
			}
		})
	}
}

// P7.3: lists longer than those of passes, with one wrong predicate at each place, or with two.
func TestLongLists(t *testing.T) {
	l := slices.Repeat(widest(), 40)
	if i, ok := holds.All(l, ann); i != 0 || !ok {
		t.Errorf("All of %d predicates = %d, %t", len(l), i, ok)
	}
	if i, ok := holds.All(l, api.Context{Zone: 5}); i != 0 || ok {
		t.Errorf("All of %d predicates for an invalid context = %d, %t", len(l), i, ok)
	}
	for place := range l {
		for _, wrong := range []api.Predicate{{}, {Kind: api.PredZone, Mask: 1}} {
			changed := slices.Clone(l)
			changed[place] = wrong
			changed[len(l)-1] = wrong
			if i, ok := holds.All(changed, ann); i != place || ok {
				t.Fatalf("All of predicates of which the one at %d does not hold = %d, %t", place, i, ok)
			}
		}
	}
}

// P7.4: what a list with one more predicate permits, at whatever place, the list without it permits.
func TestAddingPredicates(t *testing.T) {
	contexts := append(validContexts(), invalidContexts()[:10]...)
	for size := range 3 {
		eachList(size, various(), func(l []api.Predicate) {
			for _, added := range various() {
				for place := range size + 1 {
					more := slices.Insert(slices.Clone(l), place, added)
					for _, c := range contexts {
						_, before := holds.All(l, c)
						if _, after := holds.All(more, c); after && !before {
							t.Fatalf("%v is possible with %v, but not with %v", c, more, l)
						}
					}
				}
			}
		})
	}
}

// R3, R4: All does not modify its list, nor what stands behind it, and repeats its results.
func TestListsAreNotModified(t *testing.T) {
	memory := various()
	l := memory[:9]
	first, firstOK := holds.All(l, ann)
	again, againOK := holds.All(l, ann)
	if first != again || firstOK != againOK {
		t.Errorf("All = %d, %t, and then %d, %t", first, firstOK, again, againOK)
	}
	if !slices.Equal(memory, various()) {
		t.Errorf("All modified its list to %v", memory)
	}
}
