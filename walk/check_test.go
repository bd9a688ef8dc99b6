package walk_test

import (
	"math"
	"slices"
	"testing"

	"boundstone/api"
	"boundstone/walk"
)

// rich returns a parish with four stones, two of which are in no walk of the first year, a proof, and three walks with legs and offsets.
func rich() api.Parish {
	l := []api.Marked{
		standing(1, box(0, 1, 0, 0)),
		standing(2, box(30, 30, 0, 1)),
		standing(3, box(30, 31, 40, 40)),
		standing(4, box(0, 0, 40, 41)),
	}
	p := parish(l,
		api.Walk{ID: 5, Year: 1710, Legs: []api.Leg{leg(1, 2, api.East, 1710, 30, 1), leg(2, 3, -1, 1710, 40, 1)}, Offsets: []api.Offset{offset(1, 2, 3, true), offset(1, 3, 2, false)}},
		api.Walk{ID: 3, Year: 1710, Legs: []api.Leg{leg(3, 1, -1, 1710, 50, 1), leg(4, 3, -1, 1710, 30, 2)}, Offsets: []api.Offset{offset(3, 4, 1, true), offset(2, 3, 4, true)}},
		api.Walk{ID: 8, Year: 1715, Legs: []api.Leg{leg(2, 4, -1, 1715, 50, 2)}},
	)
	p.Works.Proofs = []api.Proof{{ID: 1, Chain: 1, Year: 1705, Long: span(10000, 10010)}}
	p.Changes = 2
	return p
}

// full returns a parish with as many stones, walks, legs and offsets as are allowed, at the limits of the numbers.
func full() api.Parish {
	var p api.Parish
	p.Works.Chains = []api.Chain{rod(1, 0)}
	p.Changes = 8
	for i := range 6 {
		p.Stones = append(p.Stones, marked(greatID-i, 10000, 10000, sight(1, 0, one(at(i, i*i))), sight(2, lastYear, one(at(i, i*i)))))
		p.Ring = append(p.Ring, greatID-i)
	}
	for i := range 12 {
		year := i / 11 * lastYear
		w := api.Walk{ID: greatID - i, Year: year}
		for range 10 {
			w.Legs = append(w.Legs, leg(greatID, greatID-5, api.South, year, 0, 100000))
			w.Offsets = append(w.Offsets, offset(greatID, greatID-5, greatID-1, true))
		}
		p.Walks = append(p.Walks, w)
	}
	return p
}

// wrong is a change that makes a parish wrong.
type wrong struct {
	what string
	do   func(p *api.Parish)
	e    api.Errno
}

// wrongs returns changes of the rich parish in the order in which their errors are looked for.
func wrongs() []wrong {
	var l []wrong
	add := func(what string, e api.Errno, do func(p *api.Parish)) { l = append(l, wrong{what, do, e}) }
	add("a wear", api.ErrArg, func(p *api.Parish) { p.Works.Chains[0].Wear = -1 })
	add("a proof of no chain", api.ErrArg, func(p *api.Parish) { p.Works.Proofs[0].Chain = 2 })
	add("seven stones", api.ErrLimit, func(p *api.Parish) {
		for n := len(p.Stones); n < 7; n++ {
			p.Stones = append(p.Stones, standing(n+1, box(0, 0, 0, 0)))
		}
	})
	add("a number", api.ErrArg, func(p *api.Parish) { p.Stones[0].Number = 0 })
	add("a life without sights", api.ErrLimit, func(p *api.Parish) { p.Stones[0].Life.Sights = nil })
	add("a great number", api.ErrArg, func(p *api.Parish) { p.Stones[1].Number = greatID + 1 })
	add("a number twice", api.ErrTwice, func(p *api.Parish) { p.Stones[1].Number = p.Stones[0].Number })
	add("a sight twice", api.ErrTwice, func(p *api.Parish) { p.Stones[2].Life.Sights[1].ID = 1 })
	add("a habit", api.ErrArg, func(p *api.Parish) { p.Stones[3].Life.Habit.Step = -1 })
	add("changes", api.ErrArg, func(p *api.Parish) { p.Changes = 9 })
	add("a short ring", api.ErrLimit, func(p *api.Parish) { p.Ring = []int{99, 99} })
	add("a ring of no stone", api.ErrNone, func(p *api.Parish) { p.Ring[1] = 99 })
	add("a ring with a stone twice", api.ErrTwice, func(p *api.Parish) { p.Ring[2] = p.Ring[0] })
	add("a ring of no stone, later", api.ErrNone, func(p *api.Parish) { p.Ring[3] = -1 })
	add("13 walks", api.ErrLimit, func(p *api.Parish) { p.Walks = append(p.Walks, make([]api.Walk, 10)...) })
	add("an ID", api.ErrArg, func(p *api.Parish) { p.Walks[0].ID = 0 })
	add("legs", api.ErrLimit, func(p *api.Parish) { p.Walks[0].Legs = append(p.Walks[0].Legs, make([]api.Leg, 9)...) })
	add("a quarter", api.ErrArg, func(p *api.Parish) { p.Walks[0].Legs[0].Quarter = 4 })
	add("a leg to no stone", api.ErrNone, func(p *api.Parish) { p.Walks[0].Legs[0].To = 99 })
	add("a measure", api.ErrArg, func(p *api.Parish) { p.Walks[0].Legs[0].Measure.Links = 100 })
	add("a leg that goes nowhere", api.ErrArg, func(p *api.Parish) { p.Walks[0].Legs[1].From = p.Walks[0].Legs[1].To })
	add("another leg to no stone", api.ErrNone, func(p *api.Parish) { p.Walks[0].Legs[1].To = 0 })
	add("an offset with a stone twice", api.ErrArg, func(p *api.Parish) { p.Walks[0].Offsets[0].C = 1 })
	add("an offset of no stone", api.ErrNone, func(p *api.Parish) { p.Walks[0].Offsets[1].B = 99 })
	add("a year", api.ErrArg, func(p *api.Parish) { p.Walks[1].Year = lastYear + 1 })
	add("an ID twice", api.ErrTwice, func(p *api.Parish) { p.Walks[1].ID = p.Walks[0].ID })
	add("offsets", api.ErrLimit, func(p *api.Parish) { p.Walks[1].Offsets = append(p.Walks[1].Offsets, make([]api.Offset, 9)...) })
	add("a measure of another year", api.ErrArg, func(p *api.Parish) { p.Walks[1].Legs[0].Measure.Year = 1711 })
	add("an offset of no stone, later", api.ErrNone, func(p *api.Parish) { p.Walks[1].Offsets[0].C = 99 })
	return l
}

func TestCheckOfWrongParishes(t *testing.T) {
	l := wrongs()
	for i, x := range l {
		p := rich()
		x.do(&p)
		if e := walk.Check(p); e != x.e {
			t.Errorf("P6.1: the error of %s is %d, not %d", x.what, e, x.e)
		}
		for _, y := range l[:i] {
			p := rich()
			x.do(&p)
			y.do(&p)
			if e := walk.Check(p); e != y.e {
				t.Errorf("P6.1: the error of %s, and of %s, is %d, not %d", y.what, x.what, e, y.e)
			}
		}
	}
}

func TestCheckAtTheLimits(t *testing.T) {
	for what, p := range map[string]api.Parish{"nothing": {}, "the example": example(), "the rich one": rich(), "the full one": full(), "an impossible life": clashing()} {
		if e := walk.Check(p); e != api.OK {
			t.Errorf("P6.1: the error of %s is %d", what, e)
		}
	}
	for i, x := range []struct {
		do func(p *api.Parish)
		e  api.Errno
	}{
		{func(p *api.Parish) { p.Changes = -1 }, api.ErrArg},
		{func(p *api.Parish) { p.Changes = math.MinInt64 }, api.ErrArg},
		{func(p *api.Parish) { p.Changes = 0 }, api.OK},
		{func(p *api.Parish) { p.Changes = 8 }, api.OK},
		{func(p *api.Parish) { p.Ring = nil }, api.OK},
		{func(p *api.Parish) { p.Ring = p.Ring[:1] }, api.ErrLimit},
		{func(p *api.Parish) { p.Ring = p.Ring[:2] }, api.ErrLimit},
		{func(p *api.Parish) { p.Ring = p.Ring[:3] }, api.OK},
		{func(p *api.Parish) { p.Ring = []int{4, 2, 1, 3} }, api.OK},
		{func(p *api.Parish) { p.Ring = []int{1, 2, 3, 4, 1, 2, 3} }, api.ErrLimit},
		{func(p *api.Parish) { p.Stones[0].Number = -1 }, api.ErrArg},
		{func(p *api.Parish) { p.Stones[0].Number = math.MinInt64 }, api.ErrArg},
		{func(p *api.Parish) { p.Walks[2].ID = greatID + 1 }, api.ErrArg},
		{func(p *api.Parish) { p.Walks[2].ID = -8 }, api.ErrArg},
		{func(p *api.Parish) { p.Walks[2].Year = -1 }, api.ErrArg},
		{func(p *api.Parish) { p.Walks[2].ID = 5 }, api.ErrTwice},
		{func(p *api.Parish) { p.Walks[2].Year = 1716 }, api.ErrArg},
		{func(p *api.Parish) { p.Walks[0].Legs[0].Quarter = -2 }, api.ErrArg},
		{func(p *api.Parish) { p.Walks[0].Legs[0].Quarter = -1 }, api.OK},
		{func(p *api.Parish) { p.Walks[0].Legs[0].Quarter = 3 }, api.OK},
		{func(p *api.Parish) { p.Walks[0].Legs[0].From = 99 }, api.ErrNone},
		{func(p *api.Parish) { p.Walks[0].Legs[0] = leg(99, 99, -1, 1710, 1, 1) }, api.ErrArg},
		{func(p *api.Parish) { p.Walks[0].Legs[0].Measure.Chain = 2 }, api.ErrArg},
		{func(p *api.Parish) { p.Walks[0].Legs[0].Measure.Slack = -1 }, api.ErrArg},
		{func(p *api.Parish) { p.Walks[0].Legs[0].Measure.Slack = 100001 }, api.ErrArg},
		{func(p *api.Parish) { p.Works.Proofs[0].Long = span(10001, 10010) }, api.ErrClash},
		{func(p *api.Parish) { p.Works.Chains[0].Year = 1701 }, api.OK},
		{func(p *api.Parish) { p.Works.Chains[0].Year, p.Works.Proofs = 1711, nil }, api.ErrArg},
		{func(p *api.Parish) { p.Walks[0].Offsets[0] = offset(1, 1, 2, true) }, api.ErrArg},
		{func(p *api.Parish) { p.Walks[0].Offsets[0] = offset(1, 2, 2, true) }, api.ErrArg},
		{func(p *api.Parish) { p.Walks[0].Offsets[0] = offset(2, 1, 2, true) }, api.ErrArg},
		{func(p *api.Parish) { p.Walks[0].Offsets[0] = offset(99, 99, 98, true) }, api.ErrArg},
		{func(p *api.Parish) { p.Walks[0].Offsets[0] = offset(99, 1, 2, true) }, api.ErrNone},
		{func(p *api.Parish) { p.Walks[0].Offsets[0] = offset(1, 2, 0, true) }, api.ErrNone},
		{func(p *api.Parish) { p.Walks[0].Legs, p.Walks[0].Offsets = nil, nil }, api.OK},
	} {
		p := rich()
		x.do(&p)
		if e := walk.Check(p); e != x.e {
			t.Errorf("P6.1: %d: the error is %d, not %d", i, e, x.e)
		}
	}
	tooMuch := []func(p *api.Parish){
		func(p *api.Parish) { p.Stones = append(p.Stones, standing(1, box(0, 0, 0, 0))) },
		func(p *api.Parish) { p.Walks = append(p.Walks, api.Walk{ID: 1}) },
		func(p *api.Parish) { p.Walks[3].Legs = append(p.Walks[3].Legs, p.Walks[3].Legs[0]) },
		func(p *api.Parish) { p.Walks[3].Offsets = append(p.Walks[3].Offsets, p.Walks[3].Offsets[0]) },
	}
	for i, do := range tooMuch {
		p := full()
		do(&p)
		if e := walk.Check(p); e != api.ErrLimit {
			t.Errorf("P6.1: %d: the error of too much is %d", i, e)
		}
	}
}

// calls returns a call of each function with a parish and an error, by its name, with arguments that are wrong if the years are.
func calls(p api.Parish, year int, point api.Point) map[string][]any {
	years := []int{year}
	stays := api.Settled{Answer: api.Yes}
	return map[string][]any{
		"Check":     all(walk.Check(p)),
		"Facts":     all(walk.Facts(p, -1)),
		"Present":   all(walk.Present(p, year)),
		"Problem":   all(walk.Problem(p, year)),
		"Places":    all(walk.Places(p, years)),
		"Joint":     all(walk.Joint(p, years)),
		"Reach":     all(walk.Reach(p, -1, year, year)),
		"Where":     all(walk.Where(p, year, -1)),
		"Moved":     all(walk.Moved(p, -1, year, year)),
		"Disputed":  all(walk.Disputed(p, years)),
		"Without":   all(walk.Without(p, []int{-1})),
		"Side":      all(walk.Side(p, year, point)),
		"CheckSide": all(walk.CheckSide(p, year, point, stays)),
		"Area":      all(walk.Area(p, year)),
		"Decides":   all(walk.Decides(p, year, point, make([]api.Further, 9))),
		"Cheapest":  all(walk.Cheapest(p, year, point, make([]api.Further, 9))),
		"With":      all(walk.With(p, api.Walk{})),
		"Fits":      all(walk.Fits(p, years, nil)),
	}
}

func TestWrongParishesComeFirst(t *testing.T) {
	for _, x := range wrongs() {
		p := rich()
		x.do(&p)
		for name, results := range calls(p, -1, at(limit+1, 0)) {
			wantError(t, "P6.1: "+name+" with "+x.what, x.e, results...)
		}
	}
}

func TestArgumentsAreNotModified(t *testing.T) {
	for _, p := range []api.Parish{rich(), example(), full(), {}} {
		// A longer list behind each one shows what is written there.
		p.Walks = append(slices.Clone(p.Walks), api.Walk{ID: 77})[:len(p.Walks)]
		p.Ring = append(slices.Clone(p.Ring), 77)[:len(p.Ring)]
		before, behind := copied(p), copied(api.Parish{Walks: p.Walks[:len(p.Walks)+1], Ring: p.Ring[:len(p.Ring)+1]})
		calls(p, 1710, at(5, 5))
		calls(p, -1, at(5, 5))
		walk.With(p, api.Walk{ID: 1, Year: 1710})
		walk.Without(p, []int{5, 9})
		l := []api.Further{further(1, 2, 1, 1), further(2, 3, 1, 1)}
		walk.Cheapest(p, 1710, at(5, 5), l)
		walk.Moved(p, 1, 1710, 1715)
		walk.Where(p, 1710, 3)
		after := api.Parish{Walks: p.Walks[:len(p.Walks)+1], Ring: p.Ring[:len(p.Ring)+1]}
		if !sameParish(p, before) || !sameParish(after, behind) || l[0] != further(1, 2, 1, 1) || l[1] != further(2, 3, 1, 1) {
			t.Errorf("R6: a call modified %v", before)
		}
	}
}
