package search_test

import (
	"slices"
	"testing"

	"boundstone/api"
	"boundstone/search"
)

// checkPoints compares Holds, and the other functions on boxes of one point, with the words of the chapter.
func checkPoints(t *testing.T, f api.Fact, l []api.Point) {
	t.Helper()
	bare := bareHolds(f, l)
	boxes := make([]api.Box, len(l))
	for i, p := range l {
		boxes[i] = one(p)
	}
	if got := search.Holds(f, l); got != (bare != f.Not) {
		t.Fatalf("P3.2: Holds of %v for %v is %v", f, l, got)
	}
	if search.Can(f, boxes) != bare || search.Must(f, boxes) != bare || search.Fails(f, boxes) == search.Holds(f, l) {
		t.Fatalf("P3.2: Can, Must or Fails of %v is wrong at %v", f, l)
	}
}

// checkBoxes compares Can, Must and Fails with what all choices of points say.
func checkBoxes(t *testing.T, f api.Fact, boxes []api.Box) {
	t.Helper()
	some, all := false, true
	values := span(1, 0)
	for i, l := range choicesOf(f, boxes) {
		bare := bareHolds(f, l)
		some, all = some || bare, all && bare
		if hasValue(f) {
			n := valueOf(f, l)
			if i == 0 {
				values = span(n, n)
			}
			values = span(min(values.Lo, n), max(values.Hi, n))
		}
	}
	if hasValue(f) { // a number between the least and the greatest value counts, even if no choice has it
		some = values.Lo <= f.Span.Hi && f.Span.Lo <= values.Hi
	}
	if got := search.Can(f, boxes); got != some {
		t.Fatalf("P3.2: Can of %v on %v is %v", f, boxes, got)
	}
	if got := search.Must(f, boxes); got != all {
		t.Fatalf("P3.2: Must of %v on %v is %v", f, boxes, got)
	}
	fails := !some
	if f.Not {
		fails = all
	}
	if got := search.Fails(f, boxes); got != fails {
		t.Fatalf("P3.2: Fails of %v on %v is %v", f, boxes, got)
	}
}

func TestFactsOfTwoPoints(t *testing.T) {
	for _, p := range pointsOf(box(-3, 3, -3, 3)) {
		l := []api.Point{at(1, -2), at(1+p.X, p.Y-2)}
		facts := []api.Fact{near(1, 0, 1, 0), near(1, 0, 1, 2), near(1, 1, 0, 1), dist(1, 0, 1, 2, 5), dist(1, 1, 0, 0, 0), dist(1, 0, 1, -9, 1), dist(1, 0, 1, 18, 99)}
		for q := range 4 {
			facts = append(facts, quarter(1, 0, 1, q), quarter(1, 1, 0, q))
		}
		for n := -3; n <= 3; n++ {
			facts = append(facts, east(1, 0, 1, n, 2), north(1, 0, 1, n, n), east(1, 1, 0, n, n+1), north(1, 1, 0, -1, n))
		}
		for _, f := range facts {
			if f.Span.Lo <= f.Span.Hi {
				checkPoints(t, f, l)
				checkPoints(t, not(f), l)
			}
		}
	}
}

func TestFactsOfThreePoints(t *testing.T) {
	for _, p := range pointsOf(box(-2, 2, -2, 2)) {
		for _, q := range pointsOf(box(-2, 2, -2, 2)) {
			for n := -8; n <= 8; n++ {
				checkPoints(t, turn(1, 0, 1, 2, n, n), []api.Point{at(1, 1), p, q})
				checkPoints(t, not(turn(1, 2, 0, 1, -1, max(n, 0))), []api.Point{p, at(1, 1), q})
			}
		}
	}
}

func TestQuartersOnBoxes(t *testing.T) {
	var boxes []api.Box
	for _, lo := range pointsOf(box(-3, 2, -3, 2)) {
		for _, by := range pointsOf(box(0, 3, 0, 3)) {
			boxes = append(boxes, box(lo.X, lo.X+by.X, lo.Y, lo.Y+by.Y))
		}
	}
	for _, b := range boxes {
		for _, a := range []api.Box{one(at(0, 0)), box(-1, 0, 0, 1), box(0, 0, -1, 1)} {
			for q := range 4 {
				checkBoxes(t, quarter(1, 0, 1, q), []api.Box{a, b})
				checkBoxes(t, not(quarter(1, 1, 0, q)), []api.Box{a, b})
			}
			for by := range 4 {
				checkBoxes(t, near(1, 0, 1, by), []api.Box{a, b})
				checkBoxes(t, not(near(1, 1, 0, by)), []api.Box{a, b})
			}
		}
	}
}

func TestFactsOnBoxes(t *testing.T) {
	r := newRand(3, 2)
	for range 20000 {
		boxes := []api.Box{randomBox(r, 3), randomBox(r, 3), randomBox(r, 3)}
		checkBoxes(t, randomFact(r, 3), boxes)
	}
}

func TestValuesBetween(t *testing.T) {
	boxes := []api.Box{one(at(0, 0)), box(0, 2, 0, 0)}
	for n, want := range []bool{true, true, true, true, true, false} {
		if search.Can(dist(1, 0, 1, n, n), boxes) != want {
			t.Errorf("P3.2: Can of the distance %d, of which the values are 0 to 4, is not %v", n, want)
		}
	}
	if search.Must(dist(1, 0, 1, 0, 3), boxes) || !search.Must(dist(1, 0, 1, 0, 4), boxes) || search.Must(dist(1, 0, 1, 1, 4), boxes) {
		t.Error("P3.2: Must of the values 0 to 4 is wrong")
	}
	boxes = []api.Box{box(-2, 3, -1, 1), box(-1, 1, -5, 0)} // values that change their sign
	if search.Can(dist(1, 0, 1, -9, -1), boxes) || !search.Can(dist(1, 0, 1, 52, 60), boxes) || search.Can(dist(1, 0, 1, 53, 60), boxes) {
		t.Error("P3.2: Can of the values 0 to 52 is wrong")
	}
}

func TestFactsAtTheLimits(t *testing.T) {
	far := []api.Point{at(-limit, -limit), at(limit, limit), at(-limit, limit)}
	most, area := 8<<40, 4<<40 // the square of the longest distance, and twice the greatest area
	for _, f := range []api.Fact{dist(1, 0, 1, most, most), turn(1, 0, 1, 2, area, area), turn(1, 1, 0, 2, -area, -area), east(1, 0, 1, 2*limit, 2*limit), north(1, 1, 0, -2*limit, -2*limit), near(1, 0, 1, 2*limit), not(near(1, 0, 1, 2*limit-1)), quarter(1, 0, 1, api.East), quarter(1, 0, 1, api.North), quarter(1, 1, 0, api.West), quarter(1, 1, 0, api.South)} {
		checkPoints(t, f, far)
		if !search.Holds(f, far) {
			t.Errorf("P3.2: %v does not hold at the limits", f)
		}
	}
	whole := slices.Repeat([]api.Box{box(-limit, limit, -limit, limit)}, 3)
	for _, f := range []api.Fact{dist(1, 0, 1, 0, most), turn(1, 0, 1, 2, -area, area), east(1, 0, 1, -2*limit, 2*limit), near(1, 0, 1, 2*limit)} {
		if !search.Can(f, whole) || !search.Must(f, whole) || search.Fails(f, whole) || !search.Fails(not(f), whole) {
			t.Errorf("P3.2: %v need not hold on the greatest boxes", f)
		}
		f.Span.Hi--
		if !search.Can(f, whole) || search.Must(f, whole) {
			t.Errorf("P3.2: %v must hold on the greatest boxes", f)
		}
	}
	for _, f := range []api.Fact{dist(1, 0, 1, most+1, square), turn(1, 0, 1, 2, area+1, square), turn(1, 0, 1, 2, -square, -area-1)} {
		if search.Can(f, whole) || !search.Fails(f, whole) || search.Fails(not(f), whole) {
			t.Errorf("P3.2: %v can hold on the greatest boxes", f)
		}
	}
}

func TestFactsOfManyPoints(t *testing.T) {
	l := make([]api.Point, 20)
	boxes := make([]api.Box, 20)
	l[19], boxes[19] = at(3, 0), box(3, 3, 0, 0)
	if f := east(1, 0, 19, 3, 3); !search.Holds(f, l) || !search.Can(f, boxes) || !search.Must(f, boxes) || !search.Fails(not(f), boxes) {
		t.Error("P3.2: a fact does not hold for points of which there are more than a problem has")
	}
	for n := range 20 {
		if f := east(1, 0, 19, 3, 3); search.Holds(f, l[:n]) || search.Can(f, boxes[:n]) || search.Must(f, boxes[:n]) || search.Fails(not(f), boxes[:n]) {
			t.Errorf("P3.2: a fact about the point 19 is formed for %d points", n)
		}
	}
}

func TestNothingIsSaidOfWrongFacts(t *testing.T) {
	l, boxes := path(0, 0, 1, 0, 0, 2), []api.Box{box(0, 0, 0, 0), box(1, 1, 0, 0), box(0, 0, 2, 2)}
	for _, f := range wrongFacts() {
		for _, f := range []api.Fact{f, not(f)} {
			if search.Holds(f, l) || search.Can(f, boxes) || search.Must(f, boxes) || search.Fails(f, boxes) {
				t.Errorf("P3.2: something is said of %v", f)
			}
		}
	}
	for _, f := range rightFacts() {
		if search.Holds(f, l) == search.Holds(not(f), l) || search.Fails(f, boxes) == search.Fails(not(f), boxes) {
			t.Errorf("P3.2: nothing is said of %v", f)
		}
	}
}

func TestNothingIsSaidOfWrongPoints(t *testing.T) {
	right := []api.Fact{near(1, 0, 1, square), not(near(1, 0, 1, 0)), dist(1, 0, 1, 0, square), not(east(1, 1, 0, -1, 1))}
	for _, n := range wrongNumbers() {
		for _, p := range path(n, 0, 0, n, n, n) {
			for i := range 3 { // the fact does not name the last point
				l := path(0, 0, 3, 0, 0, 0)
				l[i] = p
				for _, f := range right {
					if search.Holds(f, l) {
						t.Errorf("P3.2: %v holds for %v", f, l)
					}
				}
			}
		}
	}
	for _, b := range wrongBoxes() {
		for i := range 3 {
			l := []api.Box{one(at(0, 0)), one(at(3, 0)), one(at(0, 0))}
			l[i] = b
			for _, f := range append(right, near(1, 0, 1, 0), not(near(1, 0, 1, square))) {
				if search.Can(f, l) || search.Must(f, l) || search.Fails(f, l) {
					t.Errorf("P3.2: something is said of %v on %v", f, l)
				}
			}
		}
	}
}

func TestAllows(t *testing.T) {
	p := example()
	for _, x := range []struct {
		l    []api.Point
		i    int
		want bool
	}{
		{path(0, 0, 4, -3), -1, true},
		{path(0, 0, 5, 0), -1, true},
		{path(0, 0, 5, 1), 0, false},
		{path(0, 0, 3, 4), 1, false},
		{path(0, 0, 0, 1), 0, false}, // neither fact holds
		{path(0, 0, 6, 0), -1, false},
		{path(0, 0, -6, 0), -1, false},
		{path(0, 0, 0, 6), -1, false},
		{path(0, 0, 0, -6), -1, false},
		{path(1, 0, 5, 0), -1, false},
		{path(0, -1, 5, 0), -1, false},
		{path(0, 0), -1, false},
		{path(0, 0, 4, 3, 0, 0), -1, false},
		{nil, -1, false},
	} {
		if i, is := search.Allows(p, x.l); i != x.i || is != x.want {
			t.Errorf("P3.3: Allows of %v is %d, %v, not %d, %v", x.l, i, is, x.i, x.want)
		}
	}
	if i, is := search.Allows(api.Problem{}, nil); i != -1 || !is {
		t.Errorf("P3.3: Allows of nothing is %d, %v", i, is)
	}
	for _, l := range wrongProblems() {
		for _, p := range l {
			if i, is := search.Allows(p, make([]api.Point, len(p.Boxes))); i != -1 || is {
				t.Errorf("P3.3: Allows of a problem that is not valid is %d, %v", i, is)
			}
		}
	}
}

func TestAllowsOfRandomProblems(t *testing.T) {
	r := newRand(3, 3)
	for range 300 {
		p := randomProblem(r)
		for k, l := range choices(p.Boxes) {
			want := firstWrong(p, l)
			if i, is := search.Allows(p, l); k%7 == 0 && (i != want || is != (want == -1)) {
				t.Fatalf("P3.3: Allows of %v for %v is %d, %v, not %d", p, l, i, is, want)
			}
		}
	}
}
