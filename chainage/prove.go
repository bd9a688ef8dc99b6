package chainage

import (
	"slices"

	"boundstone/api"
)

// Prove returns the year in which a further proof can narrow a chain's length in a year the most.
func Prove(w api.Works, chain, year int, years api.Span) (int, api.Errno) {
	s, e := agreedIn(w, chain, year)
	if e != api.OK {
		return 0, e
	}
	if _, e := agreedAll(w, chain, years); e != api.OK {
		return 0, e
	}
	if len(w.Proofs)+len(w.Repairs) >= api.MaxProofs {
		return 0, api.ErrLimit
	}
	best := years.Lo
	for y := range each(years) {
		if s.widthBehind(y, year) < s.widthBehind(best, year) {
			best = y
		}
	}
	return best, api.OK
}

// widthBehind returns how much is left open at most of the length in a year of the spell, by a further proof that shows one end of what the length can be in its own year.
func (s spell) widthBehind(proved, year int) int {
	if !within(s.years, proved) {
		return width(s.long(year))
	}
	ends := s.long(proved)
	return max(s.widthWith(proved, ends.Lo, year), s.widthWith(proved, ends.Hi, year))
}

// widthWith returns how much is left open of the length in a year, with a further proof that shows one number.
func (s spell) widthWith(proved, shown, year int) int {
	further := &proof{Year: proved, Long: api.Span{Lo: shown, Hi: shown}}
	s.things = append(slices.Clip(s.things), further)
	return width(s.long(year))
}
