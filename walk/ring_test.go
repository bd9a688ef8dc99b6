package walk_test

import (
	"math"
	"math/rand/v2"
	"slices"
	"testing"

	"boundstone/api"
	"boundstone/plane"
	"boundstone/walk"
)

func TestRound(t *testing.T) {
	square := []api.Box{box(-9, -8, -9, -8), box(8, 9, -9, -8), box(8, 9, 8, 9), box(-9, -8, 8, 9)}
	back := slices.Clone(square)
	slices.Reverse(back)
	twice := []api.Box{one(at(-9, -9)), one(at(9, -9)), one(at(0, 9)), one(at(-8, -8)), one(at(8, -8)), one(at(0, 8))}
	for i, x := range []struct {
		l  []api.Box
		at api.Point
		n  int
		is bool
	}{
		{square, at(0, 0), 1, true},
		{back, at(0, 0), -1, true},
		{twice, at(0, 0), 2, true},
		{square, at(20, 0), 0, true}, {square, at(-20, 0), 0, true}, {square, at(0, 20), 0, true}, {square, at(0, -20), 0, true},
		{square, at(10, 0), 0, true}, {square, at(-10, 0), 0, true}, {square, at(0, 10), 0, true}, {square, at(0, -10), 0, true},
		{square, at(7, 0), 1, true}, {square, at(8, 0), 0, false}, {square, at(9, 0), 0, false}, {square, at(-9, 5), 0, false}, {square, at(0, 8), 0, false}, {square, at(0, -8), 0, false},
		{square, at(7, 7), 1, true}, {square, at(8, 8), 0, false}, {square, at(9, 9), 0, false}, {square, at(-9, -9), 0, false}, {square, at(20, 8), 0, true}, {square, at(20, -9), 0, true}, {square, at(-20, 8), 0, false}, {square, at(-20, 9), 0, true}, {square, at(-20, 7), 0, true}, {square, at(-20, -9), 0, false}, {square, at(-20, -8), 0, true}, {square, at(-20, -10), 0, true},
		{square[:3], at(0, -3), 1, true}, {square[:3], at(0, 0), 0, false}, {square[:3], at(-3, 3), 0, true}, {square[:3], at(3, -3), 1, true},
		{square[:2], at(20, 20), 0, false}, {nil, at(0, 0), 0, false},
		{slices.Repeat(square[:1], 3), at(0, 0), 0, true}, {slices.Repeat(square[:1], 6), at(0, 0), 0, true}, {slices.Repeat(square[:1], 7), at(0, 0), 0, false},
		{slices.Repeat([]api.Box{one(at(1, 1))}, 3), at(1, 1), 0, false}, {slices.Repeat([]api.Box{one(at(1, 1))}, 3), at(1, 0), 0, true}, {slices.Repeat([]api.Box{one(at(1, 1))}, 3), at(0, 1), 0, true},
		{square, at(limit, limit), 0, true}, {square, at(limit+1, limit), 0, false}, {square, at(0, -limit-1), 0, false}, {square, at(math.MaxInt64, math.MinInt64), 0, false},
	} {
		n, is := walk.Round(x.l, x.at)
		if n != x.n || is != x.is {
			t.Errorf("P6.7: %d: Round of %v at %v is %d, %v", i, x.l, x.at, n, is)
		}
	}
	far := []api.Box{one(at(-limit, -limit)), one(at(limit, -limit)), one(at(limit, limit)), one(at(-limit, limit))}
	for point, want := range map[api.Point]int{at(0, 0): 1, at(limit-1, limit-1): 1, at(1-limit, 1-limit): 1} {
		if n, is := walk.Round(far, point); n != want || !is {
			t.Errorf("P6.7: Round of the whole plane at %v is %d, %v", point, n, is)
		}
	}
	for _, b := range []api.Box{box(1, 0, 0, 0), box(0, 0, 1, 0), box(0, limit+1, 0, 0), box(0, 0, -limit-1, 0), box(math.MinInt64, math.MaxInt64, 0, 0)} {
		for i := range 3 {
			l := slices.Clone(square[:3])
			l[i] = b
			if n, is := walk.Round(l, at(20, 20)); n != 0 || is {
				t.Errorf("P6.7: Round of %v is %d, %v", l, n, is)
			}
		}
	}
}

// randomRing returns a ring of boxes.
func randomRing(r *rand.Rand) []api.Box {
	var l []api.Box
	for range 3 + r.IntN(4) {
		x, y := r.IntN(15)-7, r.IntN(15)-7
		l = append(l, box(x, x+r.IntN(3)*r.IntN(2), y, y+r.IntN(3)*r.IntN(2)))
	}
	return l
}

func TestRoundOfRandomRings(t *testing.T) {
	r := newRand(6, 7)
	counts := map[int]int{}
	for range 20000 {
		l, p := randomRing(r), at(r.IntN(13)-6, r.IntN(13)-6)
		want, wanted := slowRound(l, p)
		n, is := walk.Round(l, p)
		if n != want || is != wanted {
			t.Fatalf("P6.7: Round of %v at %v is %d, %v, not %d, %v", l, p, n, is, want, wanted)
		}
		if !is {
			counts[99]++
			continue
		}
		counts[n]++
		checkTurned(t, r, l, p, n)
		for range 5 {
			checkWithin(t, r, l, p, n)
		}
	}
	for _, n := range []int{-2, -1, 0, 1, 2, 99} {
		if counts[n] < 2 {
			t.Errorf("P6.7: these rings test little: %v", counts)
		}
	}
}

// checkTurned checks a ring that is true with another first box, and turned round.
func checkTurned(t *testing.T, r *rand.Rand, l []api.Box, p api.Point, want int) {
	t.Helper()
	k := r.IntN(len(l))
	turned := slices.Concat(l[k:], l[:k])
	if n, is := walk.Round(turned, p); n != want || !is {
		t.Fatalf("P6.16: Round of %v at %v is %d, %v, but of %v %d", turned, p, n, is, l, want)
	}
	slices.Reverse(turned)
	if n, is := walk.Round(turned, p); n != -want || !is {
		t.Fatalf("P6.16: Round of %v at %v is %d, %v, but of %v %d", turned, p, n, is, l, want)
	}
}

// checkWithin checks that smaller boxes of a ring that is true go around a point as often, and so do points of them.
func checkWithin(t *testing.T, r *rand.Rand, l []api.Box, p api.Point, want int) {
	t.Helper()
	var smaller, points []api.Box
	for _, b := range l {
		x, y := b.X.Lo+r.IntN(b.X.Hi-b.X.Lo+1), b.Y.Lo+r.IntN(b.Y.Hi-b.Y.Lo+1)
		u, v := b.X.Lo+r.IntN(b.X.Hi-b.X.Lo+1), b.Y.Lo+r.IntN(b.Y.Hi-b.Y.Lo+1)
		smaller = append(smaller, box(min(x, u), max(x, u), min(y, v), max(y, v)))
		points = append(points, one(at(x, y)))
	}
	for _, part := range [][]api.Box{smaller, points} {
		if n, is := walk.Round(part, p); n != want || !is {
			t.Fatalf("P6.16: Round of %v at %v is %d, %v, but of %v %d", part, p, n, is, l, want)
		}
	}
}

func TestRoundOfPoints(t *testing.T) {
	r := newRand(6, 16)
	on := 0
	for range 20000 {
		var l []api.Box
		var corners []api.Point
		for range 3 + r.IntN(4) {
			p := at(r.IntN(9)-4, r.IntN(9)-4)
			l, corners = append(l, one(p)), append(corners, p)
		}
		p := at(r.IntN(9)-4, r.IntN(9)-4)
		n, is := walk.Round(l, p)
		want, e := plane.Winding(corners, p)
		turns, off := turnsAround(corners, p)
		if is != (e == api.OK) || n != want || off != is || n != turns {
			t.Fatalf("P6.16: Round of the points %v at %v is %d, %v, not %d, %d", corners, p, n, is, want, e)
		}
		if !is {
			on++
		}
	}
	if on < 1000 {
		t.Errorf("P6.16: these points test little: %d on edges", on)
	}
}
