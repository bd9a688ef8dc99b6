package walk_test

import (
	"slices"
	"testing"

	"boundstone/api"
	"boundstone/search"
	"boundstone/walk"
)

func TestProblem(t *testing.T) {
	want := api.Problem{
		Boxes: []api.Box{box(0, 0, 0, 0), box(300, 300, 0, 0), box(0, 4, 395, 405)},
		Facts: []api.Fact{dist(9, 0, 2, 160000, 160000), quarter(9, 0, 2, api.North)},
	}
	p, e := walk.Problem(example(), 1710)
	if !sameProblem(p, want) || e != api.OK {
		t.Errorf("P6.3: Problem of the example is %v, %d, not %v", p, e, want)
	}
	p, e = walk.Problem(example(), 1709)
	if !sameProblem(p, api.Problem{Boxes: want.Boxes}) || e != api.OK {
		t.Errorf("P6.3: Problem of a year without walks is %v, %d", p, e)
	}
	p, e = walk.Problem(example(), 1699)
	if len(p.Boxes)+len(p.Facts) > 0 || e != api.OK {
		t.Errorf("P6.3: Problem of a year without stones is %v, %d", p, e)
	}
	for _, year := range []int{-1, lastYear + 1} {
		wantError(t, "P6.3: Problem of no year", api.ErrArg, all(walk.Problem(example(), year))...)
	}
}

func TestJoint(t *testing.T) {
	q, e := walk.Joint(rich(), []int{1709, 1710, 1715})
	var want api.Problem
	for range 3 {
		for _, s := range rich().Stones {
			want.Boxes = append(want.Boxes, s.Life.Sights[0].At)
		}
	}
	want.Facts = []api.Fact{
		dist(5, 4, 5, 29*29, 31*31), quarter(5, 4, 5, api.East), dist(5, 5, 6, 39*39, 41*41), turn(5, 4, 5, 6, true), turn(5, 4, 6, 5, false),
		dist(3, 6, 4, 49*49, 51*51), dist(3, 7, 6, 28*28, 32*32), turn(3, 6, 7, 4, true), turn(3, 5, 6, 7, true),
		dist(8, 9, 11, 48*48, 52*52),
		near(0, 4, 0), near(1, 5, 0), near(2, 6, 0), near(3, 7, 0), near(4, 8, 0), near(5, 9, 0), near(6, 10, 0), near(7, 11, 0),
	}
	if !sameProblem(q, want) || e != api.OK {
		t.Errorf("P6.3: Joint of three years is %v, %d, not %v", q, e, want)
	}
	// The stone 7 is present in the first and in the third year, 3 in the second one alone, 5 in the third one and the fourth one.
	p := spread()
	p.Changes = 2
	p.Stones[2].Life.Habit.Step = 3
	p.Stones[2].Life.Sights[1].At = one(at(1, 1))
	q, e = walk.Joint(p, []int{1701, 1702, 1703, 1707})
	if l := []api.Fact{near(0, 1, 0), near(1, 3, 0), near(4, 5, 6)}; !slices.Equal(q.Facts, l) || e != api.OK {
		t.Errorf("P6.3: the reaches are %v, %d, not %v", q.Facts, e, l)
	}
	if l := []api.Box{{}, {}, {}, {}, {}, box(0, 1, 0, 1)}; !slices.Equal(q.Boxes, l) {
		t.Errorf("P6.3: the boxes are %v, not %v", q.Boxes, l)
	}
}

func TestErrorsOfJoint(t *testing.T) {
	absent := func(p *api.Parish) {
		p.Stones[1].Life.Sights[0].Year = 1711
	}
	far := func(p *api.Parish) {
		p.Stones[2].Life.Sights[0].At.X.Hi = 30 + 1024
		p.Stones[2].Life.Sights[1].At.X.Hi = 30 + 1024
	}
	much := func(p *api.Parish) {
		for range 6 {
			w := api.Walk{ID: 100 + len(p.Walks), Year: 1715}
			for range 10 {
				w.Offsets = append(w.Offsets, offset(1, 2, 3, true))
			}
			p.Walks = append(p.Walks, w)
		}
	}
	for _, x := range []struct {
		what string
		do   []func(p *api.Parish)
		e    api.Errno
	}{
		{"nothing wrong", nil, api.OK},
		{"an absent stone", []func(p *api.Parish){absent}, api.ErrNone},
		{"a large box", []func(p *api.Parish){far}, api.ErrRange},
		{"too many facts", []func(p *api.Parish){much}, api.ErrLimit},
		{"an absent stone and a large box", []func(p *api.Parish){absent, far}, api.ErrNone},
		{"a large box and too many facts", []func(p *api.Parish){far, much}, api.ErrRange},
		{"all of it", []func(p *api.Parish){far, much, absent}, api.ErrNone},
	} {
		p := rich()
		for _, do := range x.do {
			do(&p)
		}
		wantError(t, "P6.3: Joint with "+x.what, x.e, all(walk.Joint(p, []int{1710, 1715}))...)
		wantError(t, "P6.6: Fits with "+x.what, x.e, all(walk.Fits(p, []int{1710, 1715}, slices.Repeat(path(0, 0), 8)))[1:]...)
		wantError(t, "P6.5: Disputed with "+x.what, orNone(x.e), all(walk.Disputed(p, []int{1710, 1715}))...)
		wantError(t, "P6.5: Moved with "+x.what, x.e, all(walk.Moved(p, 1, 1710, 1715))...)
		wantError(t, "P6.3: Places with "+x.what, api.OK, all(walk.Places(p, []int{1710, 1715}))...)
	}
	p := rich()
	absent(&p)
	far(&p)
	for name, results := range map[string][]any{
		"Problem": all(walk.Problem(p, 1710)), "Where": all(walk.Where(p, 1710, -1)), "Side": all(walk.Side(p, 1710, at(limit+1, 0))),
		"CheckSide": all(walk.CheckSide(p, 1710, at(limit+1, 0), api.Settled{})), "Area": all(walk.Area(p, 1710)),
		"Decides": all(walk.Decides(p, 1710, at(limit+1, 0), nil)), "Cheapest": all(walk.Cheapest(p, 1710, at(limit+1, 0), nil)),
	} {
		wantError(t, "P6.3: "+name+" with an absent stone", api.ErrNone, results...)
	}
	for _, x := range []struct {
		side int
		e    api.Errno
	}{{1023, api.OK}, {1024, api.ErrRange}} {
		for _, b := range []api.Box{box(0, x.side, 0, 0), box(0, 0, 0, x.side), box(-x.side, 0, -x.side, 0)} {
			p := parish([]api.Marked{standing(1, b)})
			wantError(t, "P6.3: Joint of a box", x.e, all(walk.Joint(p, []int{1700, 1705}))...)
		}
	}
}

// orNone returns the error of Core for a problem that has solutions.
func orNone(e api.Errno) api.Errno {
	if e == api.OK {
		return api.ErrNone
	}
	return e
}

func TestMostFacts(t *testing.T) {
	p := parish([]api.Marked{standing(1, one(at(0, 0))), standing(2, one(at(9, 0))), standing(3, one(at(0, 9)))})
	for id := range 6 {
		w := api.Walk{ID: id + 1, Year: 1710}
		for range 10 {
			w.Offsets = append(w.Offsets, offset(1, 2, 3, true))
		}
		p.Walks = append(p.Walks, w)
	}
	q, e := walk.Problem(p, 1710)
	if len(q.Facts) != 60 || e != api.OK || search.Check(q) != api.OK {
		t.Errorf("P6.3: Problem with most facts has %d, %d", len(q.Facts), e)
	}
	wantError(t, "P6.3: Joint with a reach too many", api.ErrLimit, all(walk.Joint(p, []int{1710, 1711}))...)
	wantError(t, "P6.5: Moved with a reach too many", api.ErrLimit, all(walk.Moved(p, 1, 1710, 1711))...)
	p.Walks[0].Offsets = p.Walks[0].Offsets[3:]
	q, e = walk.Joint(p, []int{1710, 1711})
	if len(q.Facts) != 60 || e != api.OK {
		t.Errorf("P6.3: Joint with most facts has %d, %d", len(q.Facts), e)
	}
	wantError(t, "P6.5: Moved with most facts, and one to be decided", api.ErrLimit, all(walk.Moved(p, 1, 1710, 1711))...)
	p.Walks[0].Offsets = p.Walks[0].Offsets[1:]
	wantError(t, "P6.5: Moved with room for a fact", api.OK, all(walk.Moved(p, 1, 1710, 1711))[1:]...)
	p.Walks[1].Legs = []api.Leg{leg(1, 2, -1, 1710, 9, 0), leg(1, 2, api.East, 1710, 9, 0), leg(1, 2, api.East, 1710, 9, 0)}
	wantError(t, "P6.3: Problem with a fact too many", api.ErrLimit, all(walk.Problem(p, 1710))...)
	p.Walks[1].Legs[0].Quarter, p.Walks[1].Legs[1].Quarter, p.Walks[1].Legs[2].Quarter = -1, -1, api.East
	wantError(t, "P6.3: Problem with most facts", api.OK, all(walk.Problem(p, 1710))[1:]...)
}

func TestJointOfRandomParishes(t *testing.T) {
	r := newRand(6, 33)
	made, fits := 0, 0
	for i := range 400 {
		w := randomWorld(r, []scale{tiny, small, large}[i%3])
		p, years := w.parish, someYears(r)
		want := slowJoint(p, years)
		if len(want.Boxes) > 12 || len(want.Facts) > 60 {
			wantError(t, "P6.3: Joint of too many", api.ErrLimit, all(walk.Joint(p, years))...)
			continue
		}
		q, e := walk.Joint(p, years)
		if !sameProblem(q, want) || e != api.OK || search.Check(q) != api.OK {
			t.Fatalf("P6.3: Joint in %v of %v is %v, %d, not %v", years, p, q, e, want)
		}
		made++
		fits += checkFits(t, spoilt(r, p), years, randomChoice(r, want.Boxes))
	}
	if made < 200 || fits < 50 {
		t.Errorf("P6.3: these parishes test little: %d problems, of which points fit %d", made, fits)
	}
}

func randomChoice(r interface{ IntN(int) int }, boxes []api.Box) []api.Point {
	var l []api.Point
	for _, b := range boxes {
		l = append(l, at(b.X.Lo+r.IntN(b.X.Hi-b.X.Lo+1), b.Y.Lo+r.IntN(b.Y.Hi-b.Y.Lo+1)))
	}
	return l
}

// checkFits checks Fits for points in their boxes, and for others; it returns 1 if they fit.
func checkFits(t *testing.T, p api.Parish, years []int, l []api.Point) int {
	t.Helper()
	id, fits := 0, 1
	for _, f := range slowJoint(p, years).Facts {
		if !search.Holds(f, l) {
			id, fits = f.ID, 0
			break
		}
	}
	if n, is, e := walk.Fits(p, years, l); n != id || is != (fits == 1) || e != api.OK {
		t.Fatalf("P6.6: Fits of %v in %v of %v is %d, %v, %d, not %d, %d", l, years, p, n, is, e, id, fits)
	}
	if len(l) == 0 {
		return fits
	}
	out := slices.Clone(l)
	out[len(out)-1].Y += 1000
	for _, other := range [][]api.Point{nil, l[1:], append(slices.Clone(l), at(0, 0)), out} {
		if n, is, e := walk.Fits(p, years, other); n != -1 || is || e != api.OK {
			t.Fatalf("P6.6: Fits of %v in %v of %v is %d, %v, %d", other, years, p, n, is, e)
		}
	}
	return fits
}

func TestFits(t *testing.T) {
	for _, x := range []struct {
		l  []api.Point
		id int
		is bool
	}{
		{path(0, 0, 300, 0, 0, 400), 0, true},
		{path(0, 0, 300, 0, 1, 400), 9, false},
		{path(0, 0, 300, 0, 0, 406), -1, false},
		{path(0, 0, 301, 0, 0, 400), -1, false},
		{path(0, 0, 300, 0), -1, false},
		{nil, -1, false},
	} {
		if id, is, e := walk.Fits(example(), []int{1710}, x.l); id != x.id || is != x.is || e != api.OK {
			t.Errorf("P6.6: Fits of %v is %d, %v, %d", x.l, id, is, e)
		}
	}
	if id, is, e := walk.Fits(example(), []int{1710, 1711}, path(0, 0, 300, 0, 0, 400, 0, 0, 300, 0, 1, 400)); id != 0 || is || e != api.OK {
		t.Errorf("P6.6: Fits of a stone that is out of reach is %d, %v, %d", id, is, e)
	}
	p := rich()
	l := path(0, 0, 30, 0, 30, 40, 0, 40)
	if id, is, e := walk.Fits(p, []int{1710}, l); id != 0 || !is || e != api.OK {
		t.Errorf("P6.6: Fits of %v is %d, %v, %d", l, id, is, e)
	}
	p.Walks[0].Offsets[1].Left = true
	p.Walks[1].Legs[1].Measure.Links = 5
	if id, is, e := walk.Fits(p, []int{1710}, l); id != 5 || is || e != api.OK {
		t.Errorf("P6.6: Fits of %v with two wrong walks is %d, %v, %d", l, id, is, e)
	}
}
