package walk

import (
	"boundstone/api"
	"boundstone/search"
)

// Where returns where a stone can have stood in a year, with proofs.
func Where(p api.Parish, year, number int) (api.Extent, api.Errno) {
	q, s, e := joint(p, []int{year})
	if e != api.OK {
		return api.Extent{}, e
	}
	point := s.point(number, year)
	if point < 0 {
		return api.Extent{}, api.ErrNone
	}
	return search.Extent(q, point)
}

// Moved returns whether a stone stood elsewhere in a later year.
func Moved(p api.Parish, number, from, to int) (api.Answer, api.Errno) {
	q, s, e := joint(p, []int{from, to})
	if e != api.OK {
		return 0, e
	}
	stayed := api.Fact{Kind: api.FaNear, A: s.point(number, from), B: s.point(number, to)}
	if stayed.A < 0 || stayed.B < 0 {
		return 0, api.ErrNone
	}
	answer, e := search.Decide(q, stayed)
	if e != api.OK {
		return 0, e
	}
	switch answer {
	case api.Yes:
		return api.No, api.OK
	case api.No:
		return api.Yes, api.OK
	}
	return api.Open, api.OK
}

// Disputed returns walks of some years that contradict each other, none of which could be left out.
func Disputed(p api.Parish, years []int) ([]int, api.Errno) {
	q, e := Joint(p, years)
	if e != api.OK {
		return nil, e
	}
	return search.Core(q)
}
