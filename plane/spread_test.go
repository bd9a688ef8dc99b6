package plane_test

import (
	"math/rand/v2"
	"slices"
	"testing"

	"boundstone/api"
	"boundstone/plane"
)

// signsOf returns the signs that are told of a span of areas.
func signsOf(s api.Span) api.Signs {
	signs := api.Signs(0)
	if s.Lo < 0 {
		signs += api.SiLess
	}
	if s.Lo <= 0 && s.Hi >= 0 {
		signs += api.SiZero
	}
	if s.Hi > 0 {
		signs += api.SiMore
	}
	return signs
}

// spread returns the least and the greatest twice area, by looking at all points.
func spread(a, b, c api.Box) api.Span {
	var l []int
	for _, p := range pointsOf(a) {
		for _, q := range pointsOf(b) {
			for _, r := range pointsOf(c) {
				l = append(l, area(p, q, r))
			}
		}
	}
	return api.Span{Lo: slices.Min(l), Hi: slices.Max(l)}
}

func TestSpreadOfExamples(t *testing.T) {
	whole := box(-limit, limit, -limit, limit)
	zero := box(0, 0, 0, 0)
	for _, x := range []struct {
		a, b, c api.Box
		want    api.Span
	}{
		{zero, box(4, 4, 0, 0), box(1, 2, -1, 3), api.Span{Lo: -4, Hi: 12}},
		{zero, box(4, 4, 0, 0), box(1, 2, 1, 3), api.Span{Lo: 4, Hi: 12}},
		{zero, box(4, 4, 0, 0), box(1, 2, 0, 3), api.Span{Lo: 0, Hi: 12}},
		{zero, box(4, 4, 0, 0), box(1, 2, -3, 0), api.Span{Lo: -12, Hi: 0}},
		{zero, box(4, 4, 0, 0), box(1, 2, -3, -1), api.Span{Lo: -12, Hi: -4}},
		{zero, box(4, 4, 0, 0), box(-9, 9, 0, 0), api.Span{}},
		{zero, box(2, 2, 1, 1), box(1, 1, 0, 1), api.Span{Lo: -1, Hi: 1}},
		{zero, zero, zero, api.Span{}},
		{zero, zero, whole, api.Span{}},
		{zero, whole, whole, api.Span{Lo: -1 << 41, Hi: 1 << 41}},
		{whole, whole, whole, api.Span{Lo: -1 << 42, Hi: 1 << 42}},
		{box(-limit, -limit, -limit, -limit), box(limit, limit, -limit, -limit), box(limit, limit, limit, limit), api.Span{Lo: 1 << 42, Hi: 1 << 42}},
	} {
		if got, is := plane.Spread(x.a, x.b, x.c); got != x.want || !is {
			t.Errorf("P2.11: Spread of %v, %v, %v is %v, %v, not %v", x.a, x.b, x.c, got, is, x.want)
		}
		if got := plane.Turns(x.a, x.b, x.c); got != signsOf(x.want) {
			t.Errorf("P2.11: Turns of %v, %v, %v is %d, not %d", x.a, x.b, x.c, got, signsOf(x.want))
		}
	}
	if got := plane.Turns(zero, box(2, 2, 1, 1), box(1, 1, 0, 1)); got != 7 {
		t.Errorf("P2.11: Turns is %d where only points with other coordinates have a zero", got)
	}
	for _, w := range wrongBoxes() {
		for _, l := range [][3]api.Box{{w, zero, whole}, {zero, w, whole}, {whole, zero, w}, {w, w, w}} {
			if got, is := plane.Spread(l[0], l[1], l[2]); got != (api.Span{}) || is {
				t.Errorf("P2.11: Spread of %v is %v, %v", l, got, is)
			}
			if got := plane.Turns(l[0], l[1], l[2]); got != 0 {
				t.Errorf("P2.11: Turns of %v is %d", l, got)
			}
		}
	}
}

func TestSpread(t *testing.T) {
	r := rand.New(rand.NewPCG(2, 11))
	seen := map[api.Signs]int{}
	for range 4000 {
		a, b, c := randomBox(r, -3, 3), randomBox(r, -3, 3), randomBox(r, -3, 3)
		if r.IntN(2) == 0 {
			c = within(r, b)
		}
		want := spread(a, b, c)
		if got, is := plane.Spread(a, b, c); got != want || !is {
			t.Fatalf("P2.11: Spread of %v, %v, %v is %v, %v, not %v", a, b, c, got, is, want)
		}
		if got := plane.Turns(a, b, c); got != signsOf(want) {
			t.Fatalf("P2.11: Turns of %v, %v, %v is %d, not %d", a, b, c, got, signsOf(want))
		}
		seen[signsOf(want)]++
	}
	for _, signs := range []api.Signs{1, 2, 3, 4, 6, 7} {
		if seen[signs] == 0 {
			t.Errorf("P2.11: these boxes test little: %v", seen)
		}
	}
}

func TestDists(t *testing.T) {
	for _, x := range []struct {
		a, b api.Box
		want api.Span
	}{
		{box(0, 1, 0, 1), box(3, 4, 0, 5), api.Span{Lo: 4, Hi: 41}},
		{box(0, 0, 0, 0), box(3, 3, 4, 4), api.Span{Lo: 25, Hi: 25}},
		{box(0, 4, 0, 4), box(1, 2, 1, 2), api.Span{Lo: 0, Hi: 18}},
		{box(-limit, limit, -limit, limit), box(-limit, limit, -limit, limit), api.Span{Lo: 0, Hi: 1 << 43}},
		{box(-limit, -limit, -limit, -limit), box(limit, limit, limit, limit), api.Span{Lo: 1 << 43, Hi: 1 << 43}},
		{box(-limit, 1-limit, 0, 0), box(limit-1, limit, 0, 0), api.Span{Lo: (2*limit - 2) * (2*limit - 2), Hi: 1 << 42}},
	} {
		if got, is := plane.Dists(x.a, x.b); got != x.want || !is {
			t.Errorf("P2.11: Dists of %v and %v is %v, %v, not %v", x.a, x.b, got, is, x.want)
		}
	}
	all := boxes(-1, 3)
	for _, a := range all {
		for _, b := range all {
			want := api.Span{Lo: 1 << 62}
			for _, p := range pointsOf(a) {
				for _, q := range pointsOf(b) {
					d := (p.X-q.X)*(p.X-q.X) + (p.Y-q.Y)*(p.Y-q.Y)
					want = api.Span{Lo: min(want.Lo, d), Hi: max(want.Hi, d)}
				}
			}
			if got, is := plane.Dists(a, b); got != want || !is {
				t.Fatalf("P2.11: Dists of %v and %v is %v, %v, not %v", a, b, got, is, want)
			}
		}
	}
	for _, w := range wrongBoxes() {
		for _, l := range [][2]api.Box{{w, box(0, 9, 0, 9)}, {box(0, 9, 0, 9), w}, {w, w}} {
			if got, is := plane.Dists(l[0], l[1]); got != (api.Span{}) || is {
				t.Errorf("P2.11: Dists of %v is %v, %v", l, got, is)
			}
		}
	}
}

func inSpan(s, of api.Span) bool { return of.Lo <= s.Lo && s.Hi <= of.Hi }

func TestSpreadConsequences(t *testing.T) {
	r := rand.New(rand.NewPCG(2, 17))
	for range 5000 {
		size := []int{5, 100, limit}[r.IntN(3)]
		a, b, c := randomBox(r, -size, size), randomBox(r, -size, size), randomBox(r, -size, size)
		areas, _ := plane.Spread(a, b, c)
		dists, _ := plane.Dists(a, b)
		smallA, smallB, smallC := within(r, a), within(r, b), within(r, c)
		if s, is := plane.Spread(smallA, smallB, smallC); !inSpan(s, areas) || !is {
			t.Fatalf("P2.17: Spread of %v, %v, %v is %v, of smaller boxes %v", a, b, c, areas, s)
		}
		if s, is := plane.Dists(smallA, smallB); !inSpan(s, dists) || !is {
			t.Fatalf("P2.17: Dists of %v and %v is %v, of smaller boxes %v", a, b, dists, s)
		}
		p, q, o := at(smallA.X.Lo, smallA.Y.Hi), at(smallB.X.Hi, smallB.Y.Lo), at(smallC.X.Lo, smallC.Y.Lo)
		if n := area(p, q, o); !inSpan(api.Span{Lo: n, Hi: n}, areas) {
			t.Fatalf("P2.17: twice the area of %v, %v, %v is not in %v", p, q, o, areas)
		}
		if n := plane.Dist(p, q); !inSpan(api.Span{Lo: n, Hi: n}, dists) {
			t.Fatalf("P2.17: the distance of %v, %v is not in %v", p, q, dists)
		}
		checkAttained(t, a, b, c, areas)
	}
}

// checkAttained checks that corners of boxes attain both ends of a span of areas.
func checkAttained(t *testing.T, a, b, c api.Box, areas api.Span) {
	t.Helper()
	low, high := false, false
	for _, p := range plane.Corners(a) {
		for _, q := range plane.Corners(b) {
			for _, o := range plane.Corners(c) {
				low = low || area(p, q, o) == areas.Lo
				high = high || area(p, q, o) == areas.Hi
			}
		}
	}
	if !low || !high {
		t.Fatalf("P2.17: corners of %v, %v, %v do not attain %v", a, b, c, areas)
	}
}

// sides returns the signs of the sides on which points of a box lie, one by one.
func sides(l []api.Point, b api.Box) api.Signs {
	seen := map[int]bool{}
	for _, p := range pointsOf(b) {
		seen[side(l, p)] = true
	}
	signs := api.Signs(0)
	for value, sign := range map[int]api.Signs{-1: api.SiLess, 0: api.SiZero, 1: api.SiMore} {
		if seen[value] {
			signs += sign
		}
	}
	return signs
}

func TestSidesOfExamples(t *testing.T) {
	square := path(0, 0, 4, 0, 4, 3, 0, 3)
	large := path(-limit, -limit, limit, -limit, limit, limit, -limit, limit)
	for _, x := range []struct {
		l    []api.Point
		b    api.Box
		want api.Signs
	}{
		{square, box(1, 3, 1, 2), 4},
		{square, box(0, 4, 3, 3), 2},
		{square, box(5, 9, 0, 3), 1},
		{square, box(4, 5, 1, 1), 3},
		{square, box(3, 4, 1, 1), 6},
		{square, box(-1, 9, -1, 9), 7},
		{square, box(2, 2, 1, 1), 4},
		{path(0, 0, 3, 1, 4, 9), box(0, 2, 1, 3), 5},
		{large, box(-32, 31, -32, 31), 4},
		{large, box(limit-4095, limit, 0, 0), 6},
		{large, box(limit, limit, -limit, 4095-limit), 2},
		{square, box(100, 163, 100, 163), 1},
	} {
		for _, l := range [][]api.Point{x.l, turned(x.l)} {
			if got, e := plane.Sides(l, x.b); got != x.want || e != api.OK {
				t.Errorf("P2.12: Sides of %v, %v is %d, %d, not %d", l, x.b, got, e, x.want)
			}
		}
	}
}

func TestSidesErrors(t *testing.T) {
	square, crossed := path(0, 0, 4, 0, 4, 3, 0, 3), path(0, 0, 4, 0, 0, 3, 4, 3)
	for _, l := range [][]api.Point{square, crossed} {
		for _, b := range wrongBoxes() {
			if got, e := plane.Sides(l, b); got != 0 || e != api.ErrArg {
				t.Errorf("P2.12: Sides of %v, %v is %d, %d", l, b, got, e)
			}
		}
		for _, b := range []api.Box{box(0, 4096, 0, 0), box(3, 3, -2, 4094), box(0, 63, 0, 64), box(0, 64, 0, 63), box(-limit, limit, -limit, limit), box(-limit, limit, 0, 0), box(0, 65535, 0, 65535)} {
			if got, e := plane.Sides(l, b); got != 0 || e != api.ErrLimit {
				t.Errorf("P2.12: Sides of %v, %v is %d, %d", l, b, got, e)
			}
		}
	}
	for _, l := range [][]api.Point{crossed, path(1, 1, 1, 1, 1, 1), path(0, 0, 4, 0, 8, 0)} {
		for _, b := range []api.Box{box(0, 63, 0, 63), box(1, 1, 1, 1), box(100, 100, 0, 0)} {
			if got, e := plane.Sides(l, b); got != 0 || e != api.ErrState {
				t.Errorf("P2.12: Sides of %v, %v is %d, %d", l, b, got, e)
			}
		}
	}
}

func TestSides(t *testing.T) {
	r := rand.New(rand.NewPCG(2, 12))
	seen := map[api.Signs]int{}
	for range 5000 {
		l := star(r, 3+r.IntN(7), 5)
		b := randomBox(r, -6, 6)
		if r.IntN(3) == 0 {
			b = within(r, b)
		}
		want, wantErr := api.Signs(0), api.ErrState
		if isSimple(l) {
			want, wantErr = sides(l, b), api.OK
			seen[want]++
		}
		if got, e := plane.Sides(l, b); got != want || e != wantErr {
			t.Fatalf("P2.12: Sides of %v, %v is %d, %d, not %d, %d", l, b, got, e, want, wantErr)
		}
	}
	for signs := api.Signs(1); signs <= 7; signs++ {
		if seen[signs] == 0 {
			t.Errorf("P2.12: these boxes test little: %v", seen)
		}
	}
	if b := box(0, 63, -20, 43); sides(comb(2, 30), b) != 7 {
		t.Error("P2.12: the comb tests little")
	} else if got, e := plane.Sides(comb(2, 30), b); got != 7 || e != api.OK {
		t.Errorf("P2.12: Sides of a comb is %d, %d", got, e)
	}
}
