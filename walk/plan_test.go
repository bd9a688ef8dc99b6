package walk_test

import (
	"cmp"
	"math"
	"slices"
	"testing"

	"boundstone/api"
	"boundstone/walk"
)

func TestReadings(t *testing.T) {
	for _, x := range []struct {
		square, slack int
		want          api.Span
		e             api.Errno
	}{
		{160000, 2, span(398, 402), api.OK}, {160000, 0, span(400, 400), api.OK}, {2, 0, api.Span{}, api.ErrNone}, {2, 1, span(1, 2), api.OK},
		{0, 0, span(0, 0), api.OK}, {0, 5, span(0, 5), api.OK}, {1, 0, span(1, 1), api.OK}, {1, 1, span(0, 2), api.OK}, {3, 1, span(1, 2), api.OK}, {10, 7, span(0, 10), api.OK},
		{square, 0, span(4194304, 4194304), api.OK}, {square - 1, 0, api.Span{}, api.ErrNone}, {square - 1, 1, span(4194303, 4194304), api.OK}, {square, 1000, span(4193304, 4195304), api.OK},
		{square + 1, 0, api.Span{}, api.ErrArg}, {-1, 0, api.Span{}, api.ErrArg}, {2, -1, api.Span{}, api.ErrArg}, {2, 1001, api.Span{}, api.ErrArg},
		{math.MinInt64, 5, api.Span{}, api.ErrArg}, {math.MaxInt64, 5, api.Span{}, api.ErrArg}, {5, math.MaxInt64, api.Span{}, api.ErrArg}, {5, math.MinInt64, api.Span{}, api.ErrArg},
	} {
		s, e := walk.Readings(x.square, x.slack)
		if s != x.want || e != x.e {
			t.Errorf("P6.10: Readings of %d with the slack %d is %v, %d, not %v, %d", x.square, x.slack, s, e, x.want, x.e)
		}
	}
	for n := range 500 {
		for slack := range 6 {
			checkReadings(t, n, slack)
		}
	}
	r := newRand(6, 10)
	for range 300 {
		m := r.IntN(4194303)
		for _, n := range []int{m * m, m*m + 1, m*m + 2*m, m*m + r.IntN(2*m+1)} {
			checkReadings(t, n, r.IntN(3))
			checkReadings(t, n, 1000-r.IntN(2))
		}
	}
}

// checkReadings checks that just the numbers of a span can be read, near both ends.
func checkReadings(t *testing.T, square, slack int) {
	t.Helper()
	s, e := walk.Readings(square, slack)
	about := int(math.Sqrt(float64(square)))
	some := false
	for _, middle := range []int{about - slack, about, about + slack} {
		for m := max(0, middle-4); m < middle+5; m++ {
			can := canRead(m, square, slack)
			some = some || can
			if can != (e == api.OK && s.Lo <= m && m <= s.Hi) {
				t.Fatalf("P6.10: Readings of %d with the slack %d is %v, %d, but whether it can read %d is %v", square, slack, s, e, m, can)
			}
		}
	}
	if some != (e == api.OK) || !some && (e != api.ErrNone || s != (api.Span{})) {
		t.Fatalf("P6.10: Readings of %d with the slack %d is %v, %d", square, slack, s, e)
	}
}

// cornered returns a parish in which only the place of the stone 3 along a line is open: (0, 8) to (0, 12).
func cornered() api.Parish {
	return parish([]api.Marked{standing(1, one(at(0, 0))), standing(2, one(at(10, 0))), standing(3, box(0, 0, 8, 12)), standing(4, one(at(9, 9)))})
}

func TestDecides(t *testing.T) {
	p := cornered()
	p.Ring = []int{1, 2, 3}
	// The point (1, 9) lies inside if the stone 3 lies at (0, 11) or (0, 12), on the edge if at (0, 10).
	inner := at(1, 9)
	for _, x := range []struct {
		what string
		at   api.Point
		l    []api.Further
		is   bool
	}{
		{"nothing", inner, nil, false},
		{"nothing where the side is not open", at(1, 1), nil, true},
		{"nothing outside", at(-1, 1), nil, true},
		{"nothing where all bounds have the point on an edge", at(5, 0), nil, true},
		{"an exact leg", inner, []api.Further{further(1, 3, 0, 5)}, true},
		{"an exact leg back", inner, []api.Further{further(3, 1, 0, 5)}, true},
		{"a leg that is not exact", inner, []api.Further{further(1, 3, 1, 5)}, false},
		{"a leg that reads nothing for four of the solutions", inner, []api.Further{further(2, 3, 0, 5)}, true},
		{"a leg that says nothing", inner, []api.Further{further(1, 2, 0, 5)}, false},
		{"two legs, one of which is exact", inner, []api.Further{further(1, 2, 0, 5), further(1, 3, 0, 5)}, true},
		{"two legs that are not exact", inner, []api.Further{further(1, 3, 1, 5), further(4, 3, 1000, 5)}, false},
	} {
		is, e := walk.Decides(p, 1710, x.at, x.l)
		if is != x.is || e != api.OK {
			t.Errorf("P6.11: whether %s decides the side of %v is %v, %d", x.what, x.at, is, e)
		}
	}
}

func TestErrorsOfPlans(t *testing.T) {
	p := cornered()
	p.Stones = append(p.Stones, marked(5, 0, 0, sight(1, 1700, one(at(0, 0)))))
	good := further(1, 3, 0, 1)
	many := parish([]api.Marked{standing(1, one(at(0, 0))), standing(2, one(at(50, 0))), standing(3, box(0, 90, 1, 11))})
	for i, x := range []struct {
		p api.Parish
		l []api.Further
		e api.Errno
	}{
		{p, slices.Repeat([]api.Further{good}, 4), api.OK},
		{p, slices.Repeat([]api.Further{good}, 5), api.ErrLimit},
		{p, make([]api.Further, 5), api.ErrLimit},
		{p, make([]api.Further, 4), api.ErrArg},
		{p, []api.Further{good, further(2, 2, 0, 1)}, api.ErrArg},
		{p, []api.Further{further(1, 2, -1, 1)}, api.ErrArg},
		{p, []api.Further{further(1, 2, 1001, 1)}, api.ErrArg},
		{p, []api.Further{further(1, 2, 1000, 1)}, api.OK},
		{p, []api.Further{further(1, 2, 0, -1)}, api.ErrArg},
		{p, []api.Further{further(1, 2, 0, 1<<30+1)}, api.ErrArg},
		{p, []api.Further{further(1, 2, 0, 1<<30)}, api.OK},
		{p, []api.Further{further(1, 5, 0, 1)}, api.ErrNone},
		{p, []api.Further{further(9, 1, 0, 1)}, api.ErrNone},
		{p, []api.Further{further(9, 9, 0, 1)}, api.ErrArg},
		{p, []api.Further{further(9, 1, 1001, 1)}, api.ErrArg},
		{p, []api.Further{further(9, 1, 0, 1), further(1, 2, -1, 1)}, api.ErrNone},
		{p, []api.Further{further(1, 2, -1, 1), further(9, 1, 0, 1)}, api.ErrArg},
		{many, nil, api.ErrLimit},
		{many, []api.Further{good}, api.ErrLimit},
		{many, []api.Further{further(1, 1, 0, 1)}, api.ErrArg},
		{many, []api.Further{further(1, 9, 0, 1)}, api.ErrNone},
	} {
		l := slices.Clone(x.l)
		is, e := walk.Decides(x.p, 1710, at(1, 1), x.l)
		if e != x.e || is && e != api.OK {
			t.Errorf("P6.11: %d: Decides is %v, %d, not %d", i, is, e, x.e)
		}
		wantError(t, "P6.12: Cheapest", x.e, all(walk.Cheapest(x.p, 1710, at(1, 1), x.l))...)
		if !slices.Equal(l, x.l) {
			t.Errorf("R6: %d: the legs are modified", i)
		}
	}
	most := parish([]api.Marked{standing(1, one(at(0, 0))), standing(2, one(at(50, 0))), standing(3, box(0, 99, 1, 10))})
	if is, e := walk.Decides(most, 1710, at(1, 1), nil); is || e != api.OK {
		t.Errorf("P6.11: Decides of 1000 solutions is %v, %d", is, e)
	}
}

func TestCheapest(t *testing.T) {
	p := cornered()
	p.Ring = []int{1, 2, 3}
	blind := further(1, 2, 0, 0)
	for i, x := range []struct {
		at   api.Point
		l    []api.Further
		want []int
		e    api.Errno
	}{
		{at(1, 1), []api.Further{blind, further(1, 3, 0, 0)}, nil, api.OK},
		{at(1, 9), []api.Further{further(1, 3, 0, 7)}, []int{0}, api.OK},
		{at(1, 9), []api.Further{blind}, nil, api.ErrNone},
		{at(1, 9), nil, nil, api.ErrNone},
		{at(1, 9), []api.Further{blind, further(1, 3, 0, 7)}, []int{1}, api.OK},
		{at(1, 9), []api.Further{further(1, 3, 0, 7), blind, further(1, 3, 0, 7)}, []int{0}, api.OK},
		{at(1, 9), []api.Further{further(1, 3, 0, 8), blind, further(3, 1, 0, 7)}, []int{2}, api.OK},
		{at(1, 9), []api.Further{further(1, 3, 0, 1<<30), further(1, 3, 0, 1<<30)}, []int{0}, api.OK},
		{at(1, 9), []api.Further{further(1, 3, 1, 0), blind, further(1, 3, 0, 0)}, []int{2}, api.OK},
	} {
		l, e := walk.Cheapest(p, 1710, x.at, x.l)
		if !slices.Equal(l, x.want) || e != x.e {
			t.Errorf("P6.12: %d: Cheapest is %v, %d, not %v, %d", i, l, e, x.want, x.e)
		}
	}
}

// TestCheapestOfTwoLegs needs both distances from the stone 1: neither where the stone 2 lies nor where the stone 3 does decides alone.
func TestCheapestOfTwoLegs(t *testing.T) {
	p := parish([]api.Marked{standing(1, one(at(0, 0))), standing(2, box(10, 12, 0, 0)), standing(3, box(0, 0, 10, 12))})
	across := further(2, 3, 1000, 0)
	for i, x := range []struct {
		l    []api.Further
		want []int
		e    api.Errno
	}{
		{[]api.Further{further(1, 2, 0, 5), further(1, 3, 0, 5)}, []int{0, 1}, api.OK},
		{[]api.Further{further(1, 2, 0, 5), further(1, 2, 0, 1)}, nil, api.ErrNone},
		{[]api.Further{further(1, 3, 0, 3), further(1, 2, 0, 5), further(1, 2, 1000, 0), further(1, 2, 0, 5)}, []int{0, 1}, api.OK},
		{[]api.Further{further(1, 3, 0, 3), further(1, 2, 0, 5), further(1, 2, 0, 4), further(1, 3, 0, 3)}, []int{0, 2}, api.OK},
		{[]api.Further{further(1, 2, 1000, 0), across, further(1, 3, 0, 0), further(1, 2, 0, 0)}, []int{2, 3}, api.OK},
		{[]api.Further{further(1, 2, 0, 0), further(1, 3, 0, 0), further(2, 3, 0, 0)}, []int{2}, api.OK}, // no distance is an integer: it reads nothing
	} {
		got, e := walk.Cheapest(p, 1710, at(5, 6), x.l)
		if !slices.Equal(got, x.want) || e != x.e {
			t.Errorf("P6.12: %d: Cheapest is %v, %d, not %v, %d", i, got, e, x.want, x.e)
		}
	}
}

// slowPlan is what is known for further legs, of all solutions.
type slowPlan struct {
	solutions [][]api.Point
	sides     []api.Answer
	reads     [][][]int // of each leg and solution, all numbers that can be read
}

func slowPlanOf(q api.Problem, ring []int, point api.Point, places []api.Stood, l []api.Further) slowPlan {
	x := slowPlan{solutions: choicesThat(q)}
	for _, s := range x.solutions {
		x.sides = append(x.sides, lies(along(ring, s), point))
	}
	index := func(number int) int {
		return slices.IndexFunc(places, func(s api.Stood) bool { return s.Number == number })
	}
	for _, f := range l {
		var reads [][]int
		for _, s := range x.solutions {
			a, b := s[index(f.From)], s[index(f.To)]
			reads = append(reads, readable((a.X-b.X)*(a.X-b.X)+(a.Y-b.Y)*(a.Y-b.Y), f.Slack, 100))
		}
		x.reads = append(x.reads, reads)
	}
	return x
}

// decides reports whether some legs decide, by all pairs of solutions.
func (x slowPlan) decides(legs []int) bool {
	for i := range x.solutions {
		for j := range x.solutions {
			if x.sides[i] == x.sides[j] {
				continue
			}
			alike := true
			for _, k := range legs {
				alike = alike && slices.ContainsFunc(x.reads[k][i], func(m int) bool { return slices.Contains(x.reads[k][j], m) })
			}
			if alike {
				return false
			}
		}
	}
	return true
}

// agree reports whether, whatever some legs read, the solutions for which they can read it have one side.
func (x slowPlan) agree(legs []int) bool {
	for i := range x.solutions {
		reads := [][]int{nil}
		for _, k := range legs {
			var longer [][]int
			for _, begin := range reads {
				for _, m := range x.reads[k][i] {
					longer = append(longer, append(slices.Clone(begin), m))
				}
			}
			reads = longer
		}
		for _, read := range reads {
			for j := range x.solutions {
				can := true
				for n, k := range legs {
					can = can && slices.Contains(x.reads[k][j], read[n])
				}
				if can && x.sides[i] != x.sides[j] {
					return false
				}
			}
		}
	}
	return true
}

// cheapest returns the best choice of legs that decide, by comparing all of them; false if there is none.
func (x slowPlan) cheapest(l []api.Further) ([]int, bool) {
	type choice struct {
		cost int
		legs []int
	}
	var choices []choice
	for set := range 1 << len(l) {
		var c choice
		for k, f := range l {
			if set&(1<<k) > 0 {
				c.cost += f.Cost
				c.legs = append(c.legs, k)
			}
		}
		if x.decides(c.legs) {
			choices = append(choices, c)
		}
	}
	if len(choices) == 0 {
		return nil, false
	}
	return slices.MinFunc(choices, func(a, b choice) int {
		if n := cmp.Or(cmp.Compare(a.cost, b.cost), cmp.Compare(len(a.legs), len(b.legs))); n != 0 {
			return n
		}
		return slices.Compare(a.legs, b.legs)
	}).legs, true
}

func TestPlansOfRandomParishes(t *testing.T) {
	r := newRand(6, 11)
	decided, undecided := 0, 0
	var lengths [5]int
	for range 3000 {
		p, _ := randomBounds(r)
		for i := range p.Stones {
			for k := range p.Stones[i].Life.Sights {
				b := &p.Stones[i].Life.Sights[k].At
				b.X.Hi, b.Y.Hi = min(b.X.Hi, b.X.Lo+2), min(b.Y.Hi, b.Y.Lo+2)
			}
		}
		q, ring := slowJoint(p, []int{1710}), ringOf(p, 1710)
		places, _ := slowPlaces(p, []int{1710})
		a, b := q.Boxes[0], q.Boxes[r.IntN(2)]
		point := at((a.X.Lo+b.X.Hi)/2+r.IntN(3)-1, (a.Y.Lo+b.Y.Hi)/2+r.IntN(3)-1)
		var l []api.Further
		for range r.IntN(6) {
			i, j := r.IntN(2), r.IntN(len(p.Stones))
			if i != j && len(l) < 4 {
				l = append(l, further(p.Stones[i].Number, p.Stones[j].Number, r.IntN(4)/2, r.IntN(3)))
			}
		}
		x := slowPlanOf(q, ring, point, places, l)
		if len(x.solutions) == 0 {
			continue
		}
		var legs []int
		for k := range l {
			legs = append(legs, k)
		}
		want := x.decides(legs)
		is, e := walk.Decides(p, 1710, point, l)
		if is != want || e != api.OK {
			t.Fatalf("P6.11: whether %v decide the side of %v of %v is %v, %d, not %v", l, point, p, is, e, want)
		}
		if is && !x.agree(legs) {
			t.Fatalf("P6.17: %v decide the side of %v of %v, but it is open for what they can read", l, point, p)
		}
		best, is := x.cheapest(l)
		got, e := walk.Cheapest(p, 1710, point, l)
		if is != (e == api.OK) || !is && e != api.ErrNone || !slices.Equal(got, best) {
			t.Fatalf("P6.12: Cheapest of %v for %v of %v is %v, %d, not %v", l, point, p, got, e, best)
		}
		if !want {
			undecided++
		} else if len(best) > 0 {
			decided++
		}
		lengths[len(best)]++
	}
	if undecided < 50 || decided < 50 || lengths[2] < 5 {
		t.Errorf("P6.12: these parishes test little: %d undecided, %d decided by legs, so many legs: %v", undecided, decided, lengths)
	}
}
