package chainage

import (
	"cmp"
	"slices"

	"boundstone/api"
)

// spell is years of a chain between two repairs, and the things that lie in them.
type spell struct {
	years  api.Span
	wear   int
	things []thing
}

// year returns the first year of a spell.
func (s spell) year() int { return s.years.Lo }

// spells returns the spells of a chain, in order.
func spells(w api.Works, c api.Chain) []spell {
	begins := beginnings(w, c)
	l := make([]spell, len(begins))
	for i, t := range begins {
		years := api.Span{Lo: t.year(), Hi: api.MaxYear}
		if i+1 < len(begins) {
			years.Hi = begins[i+1].year() - 1
		}
		l[i] = spell{years: years, wear: c.Wear, things: []thing{t}}
	}
	for _, p := range w.Proofs {
		if p.Chain == c.ID {
			x := proof(p)
			s := &l[lastUpTo(begins, p.Year, yearOf)]
			s.things = append(s.things, &x)
		}
	}
	return l
}

// beginnings returns the making and the repairs of a chain, by year.
func beginnings(w api.Works, c api.Chain) []thing {
	l := []thing{making(c)}
	for _, r := range w.Repairs {
		if r.Chain == c.ID {
			x := repair(r)
			l = append(l, &x)
		}
	}
	slices.SortFunc(l, func(a, b thing) int { return cmp.Compare(yearOf(a), yearOf(b)) })
	return l
}

// spellOf returns the one of a chain's spells that contains a year.
func spellOf(l []spell, year int) spell { return l[lastUpTo(l, year, spell.year)] }

// spellIn returns the spell of a chain that contains a year; the errors are those of Spell.
func spellIn(w api.Works, chain, year int) (spell, api.Errno) {
	if e := Check(w); e != api.OK {
		return spell{}, e
	}
	c, is := chainOf(w.Chains, chain)
	if !is {
		return spell{}, api.ErrNone
	}
	if !within(yearsOf(c), year) {
		return spell{}, api.ErrArg
	}
	return spellOf(spells(w, c), year), api.OK
}

// Spell returns the years from one making or repair of a chain to the next one that contain a year.
func Spell(w api.Works, chain, year int) (api.Span, api.Errno) {
	s, e := spellIn(w, chain, year)
	return s.years, e
}

// lowBy returns the number that no length in a year is less than, by what a thing of the spell tells: before its year the chain can have been shorter, but not by more than it stretched since.
func (s spell) lowBy(t thing, year int) int {
	return t.long().Lo - s.wear*max(0, t.year()-year)
}

// highBy returns the number that no length in a year is greater than, by what a thing of the spell tells.
func (s spell) highBy(t thing, year int) int {
	return t.long().Hi + s.wear*max(0, year-t.year())
}

// low returns the least length in a year, if the things of the spell do not contradict each other.
func (s spell) low(year int) int {
	var l []int
	for _, t := range s.things {
		l = append(l, s.lowBy(t, year))
	}
	return greatest(api.MinLong, l...)
}

// high returns the greatest length in a year, if the things of the spell do not contradict each other.
func (s spell) high(year int) int {
	var l []int
	for _, t := range s.things {
		l = append(l, s.highBy(t, year))
	}
	return least(api.MaxLong, l...)
}

func (s spell) long(year int) api.Span { return api.Span{Lo: s.low(year), Hi: s.high(year)} }

// contradict reports whether one of two things of the spell asks for more than the other one allows. If so in any year, then in that of the later one, too.
func (s spell) contradict(a, b thing) bool {
	year := max(a.year(), b.year())
	return s.lowBy(a, year) > s.highBy(b, year) || s.lowBy(b, year) > s.highBy(a, year)
}

// clashes returns the pairs of numbers of things of the spell that contradict each other, the lesser number first.
func (s spell) clashes() [][2]int {
	var l [][2]int
	for i, a := range s.things {
		for _, b := range s.things[:i] {
			if s.contradict(a, b) {
				m, n := number(a), number(b)
				l = append(l, [2]int{min(m, n), max(m, n)})
			}
		}
	}
	return l
}

func (s spell) agrees() bool { return len(s.clashes()) == 0 }
