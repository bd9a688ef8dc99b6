package walk_test

import (
	"testing"

	"boundstone/api"
	"boundstone/plane"
	"boundstone/search"
	"boundstone/stone"
	"boundstone/walk"
)

// truePoints returns where the stones stood in some years, in the order of the places.
func (w world) truePoints(years []int) []api.Point {
	places, _ := slowPlaces(w.parish, years)
	var l []api.Point
	for _, s := range places {
		l = append(l, w.stood[s])
	}
	return l
}

func TestWhatIsTrueIsFound(t *testing.T) {
	r := newRand(6, 13)
	told, walked := map[string]int{}, 0
	for i := range 600 {
		w := randomWorld(r, []scale{tiny, small, large}[i%3])
		p, years := w.parish, someYears(r)
		for _, s := range p.Stones {
			if least, e := stone.Least(s.Life); e != api.OK || len(least) != len(s.Life.Sights)-1 {
				t.Fatalf("the life %v is impossible: %d", s, e)
			}
		}
		q, e := walk.Joint(p, years)
		if e == api.ErrLimit {
			continue
		}
		l := w.truePoints(years)
		if n, is := search.Allows(q, l); !is || e != api.OK {
			t.Fatalf("P6.13: the true points %v in %v are no solution for %v (%d): %d", l, years, p, e, n)
		}
		if n, is, e := walk.Fits(p, years, l); n != 0 || !is || e != api.OK {
			t.Fatalf("P6.13: the true points %v in %v do not fit %v: %d, %d", l, years, p, n, e)
		}
		walked += len(q.Facts)
		w.checkWhere(t, years[0], told)
		w.checkMoved(t, years, told)
		w.checkSides(t, years[0], told)
	}
	if walked < 1000 || told["where"] < 500 || told["moved"] < 10 || told["stayed"] < 100 || told["inside"] < 20 || told["outside"] < 100 {
		t.Errorf("P6.13: these worlds test little: %d facts, %v", walked, told)
	}
}

func (w world) checkWhere(t *testing.T, year int, told map[string]int) {
	t.Helper()
	for _, number := range w.present(year) {
		p := w.stood[api.Stood{Number: number, Year: year}]
		x, e := walk.Where(w.parish, year, number)
		if e == api.ErrLimit {
			continue
		}
		if e != api.OK || !plane.Holds(x.Box, p) {
			t.Fatalf("P6.13: the stone %d stood at %v in %d, but Where is %v, %d, for %v", number, p, year, x.Box, e, w.parish)
		}
		told["where"]++
	}
}

func (w world) checkMoved(t *testing.T, years []int, told map[string]int) {
	t.Helper()
	for i, from := range years {
		for _, to := range years[i+1:] {
			for _, s := range w.parish.Stones {
				a, first := w.stood[api.Stood{Number: s.Number, Year: from}]
				b, second := w.stood[api.Stood{Number: s.Number, Year: to}]
				answer, e := walk.Moved(w.parish, s.Number, from, to)
				if first && second && (e != api.OK && e != api.ErrLimit || answer == api.Yes && a == b || answer == api.No && a != b) {
					t.Fatalf("P6.13: the stone %d stood at %v in %d and at %v in %d, but Moved is %d, %d, for %v", s.Number, a, from, b, to, answer, e, w.parish)
				}
				told[[]string{"", "stayed", "moved", ""}[answer]]++
			}
		}
	}
}

func (w world) checkSides(t *testing.T, year int, told map[string]int) {
	t.Helper()
	for _, point := range w.fields {
		s, e := walk.Side(w.parish, year, point)
		if e != api.OK {
			if e != api.ErrLimit && e != api.ErrNone {
				t.Fatalf("P6.13: the error of Side of %v in %d of %v is %d", point, year, w.parish, e)
			}
			continue
		}
		side := lies(along(ringOf(w.parish, year), w.truePoints([]int{year})), point)
		if s.Answer != api.Open && s.Answer != side {
			t.Fatalf("P6.13: %v lay on the side %d in %d, but Side is %d, for %v", point, side, year, s.Answer, w.parish)
		}
		told[[]string{"", "outside", "inside", ""}[s.Answer]]++
	}
}

func TestMovesStayOpenWithoutAWalk(t *testing.T) {
	r := newRand(6, 144)
	stays, opened := 0, 0
	for i := range 600 {
		p := randomWorld(r, []scale{tiny, small}[i%2]).parish
		if len(p.Walks) == 0 {
			continue
		}
		less, e := walk.Without(p, []int{p.Walks[0].ID})
		if e != api.OK {
			t.Fatalf("P6.4: the error of Without is %d", e)
		}
		for _, s := range p.Stones {
			for _, years := range [][2]int{{p.Walks[0].Year, 1712}, {1706, 1712}, {1705, 1706}} {
				x, e := walk.Moved(p, s.Number, years[0], years[1])
				y, f := walk.Moved(less, s.Number, years[0], years[1])
				if e != api.OK || f != api.OK {
					continue
				}
				if x == api.Open && y != api.Open {
					t.Fatalf("P6.14: without a walk Moved of %d in %v of %v is %d", s.Number, years, p, y)
				}
				if x == api.Open {
					stays++
				} else if y == api.Open {
					opened++
				}
			}
		}
	}
	if stays < 100 || opened < 1 {
		t.Errorf("P6.14: these parishes test little: %d stay open, %d become open", stays, opened)
	}
}

func TestLessIsKnownWithoutAWalk(t *testing.T) {
	r := newRand(6, 14)
	larger, opened := 0, 0
	for range 400 {
		p, fields := randomBounds(r)
		if len(p.Walks[0].Legs) == 0 {
			continue
		}
		// Each leg is told by a walk of its own.
		legs := p.Walks[0].Legs
		p.Walks = nil
		for i, g := range legs {
			p.Walks = append(p.Walks, api.Walk{ID: i + 1, Year: 1710, Legs: []api.Leg{g}})
		}
		less, e := walk.Without(p, []int{1 + r.IntN(len(legs))})
		if e != api.OK {
			t.Fatalf("P6.4: the error of Without is %d", e)
		}
		for _, s := range p.Stones {
			x, e := walk.Where(p, 1710, s.Number)
			y, f := walk.Where(less, 1710, s.Number)
			if e != api.OK || f != api.OK {
				continue
			}
			if cover, _ := plane.Cover(x.Box, y.Box); cover != y.Box {
				t.Fatalf("P6.14: without a walk the box of %d of %v is %v, not %v", s.Number, p, y.Box, x.Box)
			}
			if x.Box != y.Box {
				larger++
			}
		}
		for _, point := range fields {
			x, e := walk.Side(p, 1710, point)
			y, f := walk.Side(less, 1710, point)
			if e != api.OK || f != api.OK {
				continue
			}
			if x.Answer == api.Open && y.Answer != api.Open {
				t.Fatalf("P6.14: without a walk the side of %v of %v is %d", point, p, y.Answer)
			}
			if x.Answer != y.Answer {
				opened++
			}
		}
	}
	if larger < 50 || opened < 10 {
		t.Errorf("P6.14: these parishes test little: %d boxes became larger, %d sides open", larger, opened)
	}
}
