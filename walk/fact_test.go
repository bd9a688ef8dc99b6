package walk_test

import (
	"math"
	"slices"
	"testing"

	"boundstone/api"
	"boundstone/walk"
)

func wantFacts(t *testing.T, what string, p api.Parish, id int, want ...api.Fact) {
	t.Helper()
	l, e := walk.Facts(p, id)
	if !slices.Equal(l, want) || e != api.OK {
		t.Errorf("P6.2: %s: Facts is %v, %d, not %v", what, l, e, want)
	}
}

func TestFacts(t *testing.T) {
	wantFacts(t, "the example", example(), 9, dist(9, 0, 2, 160000, 160000), quarter(9, 0, 2, api.North))
	wantFacts(t, "legs and offsets", rich(), 5,
		dist(5, 0, 1, 29*29, 31*31), quarter(5, 0, 1, api.East), dist(5, 1, 2, 39*39, 41*41),
		turn(5, 0, 1, 2, true), turn(5, 0, 2, 1, false))
	wantFacts(t, "no quarters", rich(), 3,
		dist(3, 2, 0, 49*49, 51*51), dist(3, 3, 2, 28*28, 32*32), turn(3, 2, 3, 0, true), turn(3, 1, 2, 3, true))
	p := rich()
	p.Walks = append(p.Walks, api.Walk{ID: 1, Year: 0})
	wantFacts(t, "no legs", p, 1)
	for _, id := range []int{0, -1, 4, 77, math.MinInt64, math.MaxInt64} {
		l, e := walk.Facts(p, id)
		wantError(t, "P6.2: Facts of no walk", api.ErrNone, l, e)
	}
}

func TestFactsOfFarDistances(t *testing.T) {
	p := example()
	p.Stones[1].Life.Sights[0].At = one(at(0, 0))
	l := []api.Leg{leg(1, 2, -1, 1710, 4194303, 0), leg(1, 2, -1, 1710, 4194304, 0), leg(1, 2, -1, 1710, 4194305, 0), leg(1, 2, -1, 1710, 4194304, 1), leg(2, 1, -1, 1710, 10000099, 100000), leg(2, 1, -1, 1710, 1, 2), leg(2, 1, -1, 1710, 0, 0)}
	p.Walks = []api.Walk{{ID: 4, Year: 1710, Legs: l}}
	wantFacts(t, "distances about the greatest one", p, 4,
		dist(4, 0, 1, 4194303*4194303, 4194303*4194303), dist(4, 0, 1, square, square), dist(4, 0, 1, square, square),
		dist(4, 0, 1, 4194303*4194303, square), dist(4, 1, 0, square, square), dist(4, 1, 0, 0, 9), dist(4, 1, 0, 0, 0))
}

func TestFactsOfRandomParishes(t *testing.T) {
	r := newRand(6, 2)
	facts := 0
	for i := range 300 {
		p := randomWorld(r, []scale{tiny, small, large}[i%3]).parish
		for _, w := range p.Walks {
			want := slowFacts(p, w, func(number int) int {
				return slices.IndexFunc(p.Stones, func(s api.Marked) bool { return s.Number == number })
			})
			facts += len(want)
			wantFacts(t, "a random walk", p, w.ID, want...)
		}
	}
	if facts < 500 {
		t.Errorf("P6.2: these walks test little: %d facts", facts)
	}
}
