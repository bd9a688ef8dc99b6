package register_test

import (
	"math"
	"math/rand/v2"

	"boundstone/api"
	"boundstone/search"
	"boundstone/walk"
)

// village is entries about a parish whose chain is always 10000 points long, and whose stones are never moved.
type village struct {
	l      []api.Entered
	last   [3]int // the last line of each book
	stood  map[int]api.Point
	fields []int
}

// enter enters something in a book, and returns its name.
func (v *village) enter(r *rand.Rand, vestry, year int, e api.Entry) api.Name {
	v.last[vestry] += 1 + r.IntN(2)
	x := entered(vestry, v.last[vestry], year, e)
	v.l = append(v.l, x)
	return x.Name
}

// anywhere enters something in any book, early.
func (v *village) anywhere(r *rand.Rand, e api.Entry) api.Name {
	return v.enter(r, r.IntN(3), 1700+r.IntN(2)*r.IntN(5), e)
}

// randomVillage returns a village in which chains and stones are true, and most walks.
func randomVillage(r *rand.Rand) *village {
	v := &village{stood: map[int]api.Point{}}
	v.makeChains(r)
	v.setStones(r)
	for i := range 2 + r.IntN(3) {
		v.anywhere(r, witness(i+1, r.IntN(3)*r.IntN(2), r.IntN(3)*r.IntN(2)))
	}
	for range r.IntN(7) {
		v.goRound(r)
	}
	v.layFields(r)
	v.makeCustoms(r)
	v.makeClaims(r)
	for range r.IntN(3) {
		v.anywhere(r, randomEntry(r))
	}
	if r.IntN(3) == 0 {
		v.anywhere(r, v.l[r.IntN(len(v.l))].Entry) // something that stands there already
	}
	for range r.IntN(4) {
		x := v.l[r.IntN(len(v.l))]
		v.enter(r, x.Name.Vestry, 1700+r.IntN(12), back(x.Name.Line))
	}
	return v
}

func (v *village) makeChains(r *rand.Rand) {
	v.anywhere(r, chain(1, 1690, 10000-r.IntN(3), 10000, r.IntN(3)))
	for range r.IntN(3) {
		v.anywhere(r, proof(1, 1700+r.IntN(12), 10000-r.IntN(3), 10000+r.IntN(3)))
	}
	if r.IntN(4) == 0 {
		v.anywhere(r, repair(1, 1695+r.IntN(15), 10000-r.IntN(3), 10000+r.IntN(3)))
	}
}

// setStones sets three or four stones, two of which are not known well.
func (v *village) setStones(r *rand.Rand) {
	ring := []int{}
	corners := []api.Point{at(0, 0), at(20, 0), at(20, 20), at(0, 20)}
	for i, c := range corners[:3+r.IntN(2)] {
		p := at(c.X+r.IntN(4), c.Y+r.IntN(4))
		v.stood[i+1] = p
		around := func() api.Box {
			if i >= 2 {
				return box(p.X, p.X, p.Y, p.Y)
			}
			return box(p.X-r.IntN(5), p.X+r.IntN(5), p.Y-r.IntN(2), p.Y+r.IntN(3))
		}
		v.anywhere(r, stone(i+1, 1700, around()))
		if r.IntN(16) > 0 {
			v.anywhere(r, seen(i+1, 1712, around()))
		}
		if r.IntN(4) == 0 {
			v.anywhere(r, seen(i+1, 1703+r.IntN(5), around()))
		}
		if r.IntN(6) == 0 {
			v.anywhere(r, note(i+1, api.GaSame, 1700, 1701+r.IntN(11)))
		}
		ring = append(ring, i+1)
	}
	if r.IntN(16) > 0 {
		v.anywhere(r, bounds(r.IntN(2)*r.IntN(2), ring...))
	}
}

// goRound lets a witness tell of a walk, truly or not.
func (v *village) goRound(r *rand.Rand) {
	year := []int{1705, 1706, 1706, 1706, 1707}[r.IntN(5)]
	e := walked(1+r.IntN(4), year)
	wrong := r.IntN(5) < 2
	for range r.IntN(3) {
		from := 1 + r.IntN(2)
		to := 1 + (from+r.IntN(len(v.stood)-1))%len(v.stood)
		a, b := v.stood[from], v.stood[to]
		links := int(math.Hypot(float64(a.X-b.X), float64(a.Y-b.Y)))
		if wrong {
			links += (2 + r.IntN(3)) * (2*r.IntN(2) - 1)
		}
		e.Walk.Legs = append(e.Walk.Legs, leg(from, to, -1, year, links, 1))
	}
	if r.IntN(3) == 0 {
		a, b, c := v.stood[1], v.stood[2], v.stood[3]
		left := (b.X-a.X)*(c.Y-a.Y)-(b.Y-a.Y)*(c.X-a.X) > 0
		e.Walk.Offsets = []api.Offset{{A: 1, B: 2, C: 3, Left: left != (wrong && r.IntN(2) == 0)}}
	}
	v.anywhere(r, e)
}

// layFields enters fields, some of them near the stones, and what was paid for them.
func (v *village) layFields(r *rand.Rand) {
	for i := range 2 + r.IntN(3) {
		p := v.stood[1+r.IntN(2)]
		e := field(9-2*i, p.X+r.IntN(7)-3, p.Y+r.IntN(7)-3, 10*r.IntN(6))
		if r.IntN(3) == 0 {
			e = field(9-2*i, 5+r.IntN(12), 4+r.IntN(12), 10*r.IntN(6))
		}
		v.fields = append(v.fields, 9-2*i)
		v.anywhere(r, e)
	}
	for range r.IntN(12) {
		v.enter(r, r.IntN(3), 1700+r.IntN(10), paid(v.anyField(r), 1704+r.IntN(4), 1+r.IntN(2), 1+10*r.IntN(5)))
	}
}

func (v *village) anyField(r *rand.Rand) int { return v.fields[r.IntN(len(v.fields))] }

// sources returns sources of customs, some of which are refused, or refuse others.
func sources() []string {
	return []string{
		"takes(F, V) if side(F, V).", "takes(F, 1) if field(F), year(Y), Y < 1706.", "takes(F, 2) if unknown(F). takes(F, 1) if open(F).", "takes(F, V) if claimed(F, V), not held(F). held(F) if holder(F, V).",
		"held(F) if holder(F, V). takes(F, V) if holder(F, V).", "takes(F, V) if had(F, V), not held(F).", "takes(F, oak) if open(F).", "takes(F, 1) if open(F). takes(F, 2) if field(F).", "takes(9, 3). takes(7, 2).", "", "p(X).", "p if not p.", "takes(", "takes(F, 2) if side(F, 1), not held(F).", "held(F) if not held2(F), field(F).", "held2(F) if held(F).",
		"takes(F) if field(F).", "q(X, Y) if year(X), year(Y).",
	}
}

func (v *village) makeCustoms(r *rand.Rand) {
	if r.IntN(2) == 0 {
		return
	}
	l := sources()
	for range 1 + r.IntN(3) {
		from := 1700 + r.IntN(10)
		v.anywhere(r, rule(from, from+r.IntN(8)-1, l[r.IntN(len(l))]))
	}
}

// makeClaims enters claims, and what is said of them.
func (v *village) makeClaims(r *rand.Rand) {
	for range r.IntN(4) {
		vestry := 1 + r.IntN(2)
		n := v.enter(r, vestry, 1700+r.IntN(5), claim(v.anyField(r), 1704+r.IntN(4), 1703+r.IntN(6)))
		if r.IntN(2) == 0 {
			v.enter(r, []int{3 - vestry, 3 - vestry, r.IntN(3)}[r.IntN(3)], 1702+r.IntN(6), answer(n.Vestry, n.Line))
		}
		if r.IntN(3) == 0 {
			v.enter(r, r.IntN(2)*r.IntN(3), 1702+r.IntN(6), ruling(n.Vestry, n.Line, 1+r.IntN(2)))
		}
	}
}

// randomYear returns one of the years in which something happens.
func randomYear(r *rand.Rand) int {
	return []int{1704, 1705, 1706, 1706, 1706, 1707, 1699, 1712, 1713}[r.IntN(9)]
}

// randomKnown returns a year in which entries are known.
func randomKnown(r *rand.Rand) int { return []int{1700, 1704, 1706, 1708, 1712, lastYear}[r.IntN(6)] }

// wrongWalks returns the walks of a year that are not true, of a valid parish with the stones of the village, in increasing order; false if there is no problem of this year.
func (v *village) wrongWalks(p api.Parish, year int) ([]int, bool) {
	q, e := walk.Problem(p, year)
	if e != api.OK {
		return nil, false
	}
	present, _ := walk.Present(p, year)
	var l []api.Point
	for _, number := range present {
		l = append(l, v.stood[number])
	}
	wrong := map[int]bool{}
	for _, f := range q.Facts {
		if !search.Holds(f, l) {
			wrong[f.ID] = true
		}
	}
	return sortedKeys(wrong), true
}
