package contain_test

import (
	"iter"
	"slices"
	"strings"

	"macaroon/api"
	"macaroon/authority"
)

// This file states P9.1 twice more: by looking at one context after the other, and, for sets that are too large for that, by what layer 8 says of the contexts before a witness.

// described is a valid authority with a table of the minutes of a day in Daily.
type described struct {
	api.Authority
	ofDay [1440]bool
}

// describe returns a with its table.
func describe(a api.Authority) *described {
	d := &described{Authority: a}
	for _, s := range a.Daily {
		for m := s.From; m <= s.To; m++ {
			d.ofDay[m] = true
		}
	}
	return d
}

// permits reports whether the minute m is that of a context in the set.
func (d *described) permits(m int) bool {
	return !d.None && d.From <= m && m <= d.To && d.Days>>(m/1440%7)%2 == 1 && d.ofDay[m%1440]
}

// has reports whether c, which is valid, is in the set.
func (d *described) has(c api.Context) bool {
	return d.Zones>>c.Zone%2 == 1 && d.Lines>>c.Line%2 == 1 && (d.Holder == "" || d.Holder == c.Holder) && d.permits(c.Minute)
}

// contexts yields the contexts in the set whose holders are among names, in their order.
func (d *described) contexts(names []string) iter.Seq[api.Context] {
	names = slices.DeleteFunc(slices.Clone(names), func(name string) bool { return d.Holder != "" && d.Holder != name })
	return func(yield func(api.Context) bool) {
		for zone := range 64 {
			for line := range 32 {
				if d.Zones>>zone%2 == 0 || d.Lines>>line%2 == 0 {
					continue
				}
				for m := d.From; m <= d.To; m++ {
					if !d.permits(m) {
						continue
					}
					for _, name := range names {
						if !yield(api.Context{Zone: zone, Line: line, Minute: m, Holder: name}) {
							return
						}
					}
				}
			}
		}
	}
}

// namesFor returns the first names and those of these authorities, in their order. A witness has one of them.
func namesFor(l ...api.Authority) []string {
	names := []string{"a", "b", "c", "z", "aa", "ab"}
	for _, a := range l {
		if a.Holder != "" {
			names = append(names, a.Holder)
		}
	}
	slices.SortFunc(names, func(s, t string) int {
		if len(s) != len(t) {
			return len(s) - len(t)
		}
		return strings.Compare(s, t)
	})
	return slices.Compact(names)
}

// firstOutside returns the first context of a that is not in b; both are valid.
func firstOutside(a, b api.Authority) (api.Context, bool) {
	inside := describe(b)
	for c := range describe(a).contexts(namesFor(a, b)) {
		if !inside.has(c) {
			return c, true
		}
	}
	return api.Context{}, false
}

// covers reports whether all contexts of a are in b, by what layer 8 says of both; both are valid.
func covers(b, a api.Authority) bool {
	return same(authority.Meet(a, b), a)
}

// isFirst reports whether c is the first context of a that is not in b; both are valid.
func isFirst(a, b api.Authority, c api.Context) bool {
	if !authority.Contains(a, c) || authority.Contains(b, c) {
		return false
	}
	zone := api.Predicate{Kind: api.PredZone, Mask: 1 << c.Zone}
	line := api.Predicate{Kind: api.PredLine, Mask: 1 << c.Line}
	var before [][]api.Predicate
	if c.Zone > 0 {
		before = append(before, []api.Predicate{{Kind: api.PredZone, Mask: 1<<c.Zone - 1}})
	}
	if c.Line > 0 {
		before = append(before, []api.Predicate{zone, {Kind: api.PredLine, Mask: 1<<c.Line - 1}})
	}
	if c.Minute > 0 {
		before = append(before, []api.Predicate{zone, line, {Kind: api.PredTime, To: c.Minute - 1}})
	}
	for _, l := range before {
		earlier, _ := authority.Of(l)
		if !covers(b, authority.Meet(a, earlier)) {
			return false
		}
	}
	for _, name := range namesFor(a, b) {
		if name == c.Holder {
			return true
		}
		earlier := c
		earlier.Holder = name
		if authority.Contains(a, earlier) && !authority.Contains(b, earlier) {
			return false
		}
	}
	return false
}

// same reports whether a and b are equal in all fields.
func same(a, b api.Authority) bool {
	daily := slices.Equal(a.Daily, b.Daily)
	return daily && a.None == b.None && [3]uint64{a.Zones, a.Lines, a.Days} == [3]uint64{b.Zones, b.Lines, b.Days} && [2]int{a.From, a.To} == [2]int{b.From, b.To} && a.Holder == b.Holder
}
