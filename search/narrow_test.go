package search_test

import (
	"reflect"
	"slices"
	"testing"

	"boundstone/api"
	"boundstone/search"
)

// checkNarrow compares Narrow with narrowing by one number at a time.
func checkNarrow(t *testing.T, p api.Problem) {
	t.Helper()
	want, is := narrowed(p)
	got, e := search.Narrow(p)
	if !is && (e != api.ErrClash || len(got) != 0) || is && (e != api.OK || !slices.Equal(got, want)) {
		t.Fatalf("P3.4: Narrow of %v is %v, %d, not %v, %v", p, got, e, want, is)
	}
}

func TestNarrow(t *testing.T) {
	boxes, e := search.Narrow(example())
	if e != api.OK || !slices.Equal(boxes, []api.Box{box(0, 0, 0, 0), box(3, 5, -4, 4)}) {
		t.Errorf("P3.4: Narrow of the example is %v, %d", boxes, e)
	}
	for _, p := range []api.Problem{
		{},
		example(),
		hidden(),
		problem([]api.Box{box(-9, 9, 3, 4)}),
		problem([]api.Box{box(0, 0, 0, 0), box(0, 1023, 0, 1023)}, dist(1, 0, 1, 90000, 90000)),
		problem([]api.Box{box(0, 0, 0, 0), box(0, 1023, -1023, 0)}, east(1, 0, 1, 1023, square)),
		problem([]api.Box{box(0, 0, 0, 0), box(0, 1023, -1023, 0)}, east(1, 0, 1, 1024, square)),
		// The strips of the wide span fail one by one, but not all of them together.
		problem([]api.Box{box(0, 0, 0, 0), box(0, 9, 0, 0)}, dist(1, 0, 1, 3, 3)),
		problem([]api.Box{box(0, 0, 0, 0), box(0, 9, 0, 0)}, dist(1, 0, 1, 8, 10)),
		problem([]api.Box{box(0, 0, 0, 0), box(-9, 9, 0, 0)}, not(dist(1, 0, 1, 8, 100))),
		// Both points have to be narrowed in turn, until nothing is left, or just one point.
		problem([]api.Box{box(0, 60, 0, 0), box(0, 60, 0, 0)}, east(1, 0, 1, 1, square), east(2, 1, 0, 0, square)),
		problem([]api.Box{box(0, 60, 0, 0), box(0, 60, 0, 0)}, east(1, 0, 1, 1, square), east(2, 1, 0, -59, square), east(3, 0, 1, 59, 70)),
		// A fact fails on all boxes, and names only some of the points.
		problem([]api.Box{box(0, 9, 0, 9), box(0, 1, 0, 1), box(5, 6, 0, 0)}, near(1, 1, 2, 1)),
		problem([]api.Box{box(limit-9, limit, 0, 9), box(limit-9, limit, -9, 0)}, north(1, 1, 0, -99, 0), east(1, 0, 1, 9, 99)),
		problem([]api.Box{box(0, 5, 0, 5), box(0, 5, 0, 5), box(0, 5, 0, 5)}, turn(1, 0, 1, 2, 24, 99)),
		problem([]api.Box{box(0, 5, 0, 5), box(0, 5, 0, 5), box(0, 5, 0, 5)}, not(turn(1, 0, 1, 2, -99, 24))),
		problem([]api.Box{box(0, 2, 0, 0), box(0, 2, 0, 2)}, not(near(1, 0, 1, 1))),
	} {
		checkNarrow(t, p)
	}
	r := newRand(3, 4)
	for range 3000 {
		checkNarrow(t, randomProblem(r))
	}
}

func TestNarrowOfLongWays(t *testing.T) {
	var p api.Problem
	for i := range 12 {
		p.Boxes = append(p.Boxes, box(0, 1023, 0, 1023))
		p.Facts = append(p.Facts, east(1, i, (i+1)%12, 0, square), north(1, i, (i+1)%12, 0, square))
	}
	if got, e := search.Narrow(p); e != api.OK || !slices.Equal(got, p.Boxes) {
		t.Errorf("P3.4: Narrow of a circle that says nothing is %v, %d", got, e)
	}
	p.Facts[23].Span.Lo = 1
	if got, e := search.Narrow(p); e != api.ErrClash || len(got) != 0 {
		t.Errorf("P3.4: Narrow of a circle that contradicts itself is %v, %d", got, e)
	}
}

func TestParts(t *testing.T) {
	b := box(0, 1, 0, 1)
	for _, x := range []struct {
		n     int
		facts []api.Fact
		want  [][]int
	}{
		{0, nil, nil},
		{1, nil, [][]int{{0}}},
		{3, nil, [][]int{{0}, {1}, {2}}},
		{4, []api.Fact{near(1, 3, 1, 0)}, [][]int{{0}, {1, 3}, {2}}},
		{4, []api.Fact{not(near(1, 1, 3, 0))}, [][]int{{0}, {1, 3}, {2}}},
		{4, []api.Fact{turn(1, 3, 1, 2, 0, 0)}, [][]int{{0}, {1, 2, 3}}},
		{5, []api.Fact{turn(1, 1, 4, 2, 0, 0)}, [][]int{{0}, {1, 2, 4}, {3}}},
		{6, []api.Fact{near(1, 5, 3, 0), near(1, 0, 4, 0), near(1, 3, 1, 0), near(1, 4, 0, 0)}, [][]int{{0, 4}, {1, 3, 5}, {2}}},
		{5, []api.Fact{near(1, 0, 4, 0), near(1, 3, 4, 0), near(1, 3, 2, 0), near(1, 2, 1, 0)}, [][]int{{0, 1, 2, 3, 4}}},
		{4, []api.Fact{near(1, 2, 3, 0), near(1, 0, 1, 0), quarter(1, 1, 2, 3)}, [][]int{{0, 1, 2, 3}}},
		{12, []api.Fact{near(1, 11, 10, 0), turn(1, 9, 11, 0, 0, 0)}, [][]int{{0, 9, 10, 11}, {1}, {2}, {3}, {4}, {5}, {6}, {7}, {8}}},
	} {
		got, e := search.Parts(problem(slices.Repeat([]api.Box{b}, x.n), x.facts...))
		if e != api.OK || len(got) != len(x.want) || len(got) > 0 && !reflect.DeepEqual(got, x.want) {
			t.Errorf("P3.4: Parts of %v is %v, %d, not %v", x.facts, got, e, x.want)
		}
	}
	empty := plus(problem([]api.Box{b, b, b}), east(1, 0, 2, 5, 5))
	if got, e := search.Parts(empty); e != api.OK || !reflect.DeepEqual(got, [][]int{{0, 2}, {1}}) {
		t.Errorf("P3.4: Parts of an empty problem is %v, %d", got, e)
	}
}

func TestVolume(t *testing.T) {
	two := func(a, b api.Box) api.Problem { return problem([]api.Box{a, b}, always(1, 0, 1)) }
	twelve := problem(slices.Repeat([]api.Box{box(0, 1023, 0, 1023)}, 12))
	for i := range 11 {
		twelve.Facts = append(twelve.Facts, always(1, i, i+1))
	}
	for i, x := range []struct {
		p    api.Problem
		want int
		e    api.Errno
	}{
		{api.Problem{}, 0, api.OK},
		{problem([]api.Box{box(0, 1023, 0, 1023)}), 1, api.OK},
		{problem([]api.Box{box(0, 9, 0, 9), box(0, 9, 0, 9)}), 1, api.OK},
		{example(), 27, api.OK},
		{hidden(), 121, api.OK},
		{plus(example(), east(9, 0, 1, 6, 6)), 0, api.ErrClash},
		{two(box(0, 1, 0, 2), box(0, 4, 5, 6)), 60, api.OK},
		{two(box(0, 255, 0, 255), box(0, 0, 0, 0)), volume, api.OK},
		{two(box(0, 15, 0, 15), box(0, 31, 0, 7)), volume, api.OK},
		{two(box(0, 330, 0, 197), box(0, 0, 0, 0)), volume + 1, api.OK}, // 65538
		{two(box(0, 271, 0, 240), box(0, 0, 0, 0)), volume + 1, api.OK}, // 65552
		{twelve, volume + 1, api.OK},
		{beside(two(box(0, 1, 0, 2), box(0, 4, 5, 6)), beside(two(box(0, 2, 0, 2), box(0, 6, 0, 0)), problem([]api.Box{box(0, 99, 0, 99)}))), 63, api.OK},
		{beside(two(box(0, 255, 0, 255), box(0, 0, 0, 0)), two(box(0, 255, 0, 255), box(0, 0, 0, 0))), volume, api.OK},
		{beside(huge(), plus(example(), east(9, 0, 1, 6, 6))), 0, api.ErrClash},
	} {
		if got, e := search.Volume(x.p); got != x.want || e != x.e {
			t.Errorf("P3.4: Volume of the problem %d is %d, %d, not %d, %d", i, got, e, x.want, x.e)
		}
	}
}

func TestNarrowedBoxesHaveAllSolutions(t *testing.T) {
	r := newRand(3, 14)
	for range 2000 {
		p := randomProblem(r)
		boxes, e := search.Narrow(p)
		for _, l := range solutions(p) {
			for i, q := range l {
				if e != api.OK || !inside(one(q), boxes[i]) {
					t.Fatalf("P3.14: Narrow of %v is %v, %d, without the solution %v", p, boxes, e, l)
				}
			}
		}
		if e != api.OK {
			continue
		}
		again, e := search.Narrow(problem(boxes, p.Facts...))
		if e != api.OK || !slices.Equal(again, boxes) {
			t.Fatalf("P3.14: narrowed again, %v become %v, %d", boxes, again, e)
		}
	}
}

func TestNarrowedBoxesOfMoreFactsAreNotLarger(t *testing.T) {
	r := newRand(3, 15)
	for range 2000 {
		p := randomProblem(r)
		if len(p.Boxes) < 2 {
			continue
		}
		more, smaller := plus(p, randomFact(r, len(p.Boxes))), copied(p)
		for i, b := range smaller.Boxes {
			smaller.Boxes[i] = within(r, b)
		}
		whole, e := search.Narrow(p)
		for _, q := range []api.Problem{more, smaller} {
			boxes, f := search.Narrow(q)
			if e != api.OK && f == api.OK {
				t.Fatalf("P3.14: %v is empty, %v is not", p, q)
			}
			for i, b := range boxes {
				if f == api.OK && !inside(b, whole[i]) {
					t.Fatalf("P3.14: Narrow of %v is %v, of %v only %v", q, boxes, p, whole)
				}
			}
		}
	}
}
