package authority_test

import (
	"math"
	"regexp"
	"slices"

	"macaroon/api"
)

// This file states the promises a second time: authorities are described by looking at every minute of the week.

var nameForm = regexp.MustCompile(`^[a-z]{1,16}$`)

var none = api.Authority{None: true}

const (
	allZones = math.MaxUint64
	allLines = math.MaxUint32
	lastOne  = 67108864
)

// set is a set of contexts: zones and lines are masks, from and to bound the minutes, permits says which minutes of which days of the week are permitted, and holder is empty for any one.
type set struct {
	empty        bool
	zones, lines uint64
	from, to     int
	permits      func(day, minute int) bool
	holder       string
}

// hasBit reports whether the bit n of mask is set.
func hasBit(mask uint64, n int) bool {
	return n < 64 && mask/(1<<n)%2 == 1
}

// described returns the valid authority of s, as P8.1 says.
func described(s set) api.Authority {
	if s.empty || s.zones == 0 || s.lines == 0 {
		return none
	}
	a := api.Authority{Zones: s.zones, Lines: s.lines, From: math.MaxInt, To: -1, Holder: s.holder}
	var ofDay [1441]bool
	for w := range 10080 {
		day, minute := w/1440, w%1440
		// The first and the last of the minutes from from to to that are this one of a week.
		first := s.from + ((w-s.from)%10080+10080)%10080
		last := s.to - ((s.to-w)%10080+10080)%10080
		if first > last || !s.permits(day, minute) {
			continue
		}
		a.From, a.To = min(a.From, first), max(a.To, last)
		a.Days |= 1 << day
		ofDay[minute] = true
	}
	if a.To < 0 {
		return none
	}
	start := -1
	for minute, ok := range ofDay {
		if ok && start < 0 {
			start = minute
		} else if !ok && start >= 0 {
			a.Daily = append(a.Daily, api.Span{From: start, To: minute - 1})
			start = -1
		}
	}
	return a
}

// inDaily reports whether minute lies in a span of l.
func inDaily(l []api.Span, minute int) bool {
	return slices.ContainsFunc(l, func(s api.Span) bool { return s.From <= minute && minute <= s.To })
}

// setOf returns the set that a denotes, whether or not a is valid.
func setOf(a api.Authority) set {
	var daily [1440]bool
	for _, s := range a.Daily {
		for m := max(s.From, 0); m <= min(s.To, 1439); m++ {
			daily[m] = true
		}
	}
	return set{
		empty: a.None || a.Holder != "" && !nameForm.MatchString(a.Holder),
		zones: a.Zones, lines: a.Lines % (1 << 32), from: max(a.From, 0), to: min(a.To, lastOne), holder: a.Holder,
		permits: func(day, minute int) bool { return hasBit(a.Days, day) && daily[minute] },
	}
}

// bothOf returns the contexts that are in both sets.
func bothOf(a, b set) set {
	c := a
	c.zones, c.lines = a.zones&b.zones, a.lines&b.lines
	c.from, c.to = max(a.from, b.from), min(a.to, b.to)
	c.permits = func(day, minute int) bool { return a.permits(day, minute) && b.permits(day, minute) }
	if c.holder == "" {
		c.holder = b.holder
	}
	c.empty = a.empty || b.empty || b.holder != "" && b.holder != c.holder
	return c
}

// permitted returns the set of the contexts for which p, which is valid, holds.
func permitted(p api.Predicate) set {
	s := set{zones: allZones, lines: allLines, to: lastOne, permits: func(int, int) bool { return true }}
	switch p.Kind {
	case 1:
		s.zones = p.Mask
	case 2:
		s.lines = p.Mask
	case 3:
		s.permits = func(day, minute int) bool { return hasBit(p.Mask, day) }
	case 4:
		s.from, s.to = p.From, p.To
	case 5:
		s.permits = func(day, minute int) bool {
			if p.From > p.To {
				return minute >= p.From || minute <= p.To
			}
			return minute >= p.From && minute <= p.To
		}
	case 6:
		s.holder = p.Name
	}
	return s
}

// describedOf returns what P8.2 says of the valid predicates l.
func describedOf(l []api.Predicate) api.Authority {
	s := permitted(api.Predicate{Kind: api.PredRides})
	for _, p := range l {
		s = bothOf(s, permitted(p))
	}
	return described(s)
}

// describedValid reports whether a is valid as P8.1 says.
func describedValid(a api.Authority) bool {
	if a.None {
		return a.Zones == 0 && a.Lines == 0 && a.Days == 0 && a.From == 0 && a.To == 0 && len(a.Daily) == 0 && a.Holder == ""
	}
	if a.Lines > math.MaxUint32 || a.Days > 127 {
		return false
	}
	last := -2
	for _, s := range a.Daily {
		if s.From < 0 || s.From > s.To || s.To > 1439 || s.From-last < 2 {
			return false
		}
		last = s.To
	}
	return same(a, described(setOf(a)))
}

// describedMeet returns what P8.3 says of a and b.
func describedMeet(a, b api.Authority) api.Authority {
	if !describedValid(a) || !describedValid(b) {
		return none
	}
	return described(bothOf(setOf(a), setOf(b)))
}

// inSet reports whether c is valid and in the set of a, which is valid.
func inSet(a api.Authority, c api.Context) bool {
	if a.None || c.Zone < 0 || c.Zone > 63 || c.Line < 0 || c.Line > 31 || c.Minute < 0 || c.Minute > lastOne || !nameForm.MatchString(c.Holder) {
		return false
	}
	return hasBit(a.Zones, c.Zone) && hasBit(a.Lines, c.Line) && a.From <= c.Minute && c.Minute <= a.To &&
		hasBit(a.Days, c.Minute/1440%7) && inDaily(a.Daily, c.Minute%1440) && (a.Holder == "" || a.Holder == c.Holder)
}

// same reports whether a and b are equal in all fields.
func same(a, b api.Authority) bool {
	daily := slices.Equal(a.Daily, b.Daily)
	return daily && a.None == b.None && [3]uint64{a.Zones, a.Lines, a.Days} == [3]uint64{b.Zones, b.Lines, b.Days} && [2]int{a.From, a.To} == [2]int{b.From, b.To} && a.Holder == b.Holder
}
