package chainage

import (
	"slices"

	"boundstone/api"
)

// agreedIn returns the spell of a chain that contains a year; the errors are those of Long.
func agreedIn(w api.Works, chain, year int) (spell, api.Errno) {
	s, e := spellIn(w, chain, year)
	if e != api.OK {
		return spell{}, e
	}
	if !s.agrees() {
		return spell{}, api.ErrClash
	}
	return s, api.OK
}

// Long returns the least and the greatest length of a chain in a year.
func Long(w api.Works, chain, year int) (api.Span, api.Errno) {
	s, e := agreedIn(w, chain, year)
	if e != api.OK {
		return api.Span{}, e
	}
	return s.long(year), api.OK
}

// Rests returns the proofs and repairs from which the least, and the greatest length come.
func Rests(w api.Works, chain, year int) (int, int, api.Errno) {
	s, e := agreedIn(w, chain, year)
	if e != api.OK {
		return 0, 0, e
	}
	long := s.long(year)
	low, high := 0, 0
	if long.Lo != api.MinLong {
		low = s.leastNumber(func(t thing) bool { return s.lowBy(t, year) == long.Lo })
	}
	if long.Hi != api.MaxLong {
		high = s.leastNumber(func(t thing) bool { return s.highBy(t, year) == long.Hi })
	}
	return low, high, api.OK
}

// leastNumber returns the least number of the things for which something is so; there is such a thing.
func (s spell) leastNumber(is func(thing) bool) int {
	var l []int
	for _, t := range s.things {
		if is(t) {
			l = append(l, number(t))
		}
	}
	return slices.Min(l)
}

// agreedAll returns the spells of a chain, of which those that have some years agree; the errors are those of Shortest.
func agreedAll(w api.Works, chain int, years api.Span) ([]spell, api.Errno) {
	if e := Check(w); e != api.OK {
		return nil, e
	}
	c, is := chainOf(w.Chains, chain)
	if !is {
		return nil, api.ErrNone
	}
	if !inside(years, yearsOf(c)) {
		return nil, api.ErrArg
	}
	if width(years)+1 > api.MaxSpell {
		return nil, api.ErrLimit
	}
	l := spells(w, c)
	for _, s := range l {
		if s.years.Lo <= years.Hi && s.years.Hi >= years.Lo && !s.agrees() {
			return nil, api.ErrClash
		}
	}
	return l, api.OK
}

// Shortest returns the least lengths of a chain in all years of a span.
func Shortest(w api.Works, chain int, years api.Span) (api.Wear, api.Errno) {
	return lengths(w, chain, years, spell.low)
}

// Longest returns the greatest lengths of a chain in all years of a span.
func Longest(w api.Works, chain int, years api.Span) (api.Wear, api.Errno) {
	return lengths(w, chain, years, spell.high)
}

// lengths returns one of the lengths of a chain in each year of a span.
func lengths(w api.Works, chain int, years api.Span, choose func(s spell, year int) int) (api.Wear, api.Errno) {
	l, e := agreedAll(w, chain, years)
	if e != api.OK {
		return api.Wear{}, e
	}
	x := api.Wear{Chain: chain, Year: years.Lo}
	for year := range each(years) {
		x.Long = append(x.Long, choose(spellOf(l, year), year))
	}
	return x, api.OK
}

// Fits reports whether lengths of a chain are possible, and the first year in which they are not.
func Fits(w api.Works, x api.Wear) (int, bool) {
	if Check(w) != api.OK {
		return -1, false
	}
	c, is := chainOf(w.Chains, x.Chain)
	if !is || !asked(x, yearsOf(c)) {
		return -1, false
	}
	l := spells(w, c)
	for _, s := range l {
		if !s.agrees() {
			return x.Year, false // no lengths of the chain are possible at all
		}
	}
	return fits(l, x)
}

// asked reports whether there are lengths, and their years lie within some years.
func asked(x api.Wear, years api.Span) bool {
	n := len(x.Long)
	return n > 0 && within(years, x.Year) && n-1 <= years.Hi-x.Year
}

// fits does what Fits does, for the spells of a chain that agree. Lengths that are possible each, and neighbours of which follow one another, are possible together: those of the years before and behind can be taken from what makes the first and the last one possible.
func fits(l []spell, x api.Wear) (int, bool) {
	for year := range each(api.Span{Lo: x.Year, Hi: x.Year + len(x.Long) - 1}) {
		s, i := spellOf(l, year), year-x.Year
		if !within(s.long(year), x.Long[i]) {
			return year, false
		}
		if i > 0 && year != s.year() && !within(api.Span{Hi: s.wear}, x.Long[i]-x.Long[i-1]) {
			return year, false
		}
	}
	return -1, true
}
