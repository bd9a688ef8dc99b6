package plane_test

import (
	"math/rand/v2"
	"slices"
	"testing"

	"boundstone/api"
	"boundstone/plane"
)

// onPolygon calls all functions of a polygon, and returns their errors, and whether all results beside an error are zero.
func onPolygon(l []api.Point, p api.Point, b api.Box) (map[string]api.Errno, bool) {
	area, areaErr := plane.Area(l)
	simple, simpleErr := plane.Simple(l)
	winding, windingErr := plane.Winding(l, p)
	where, whereErr := plane.Where(l, p)
	sides, sidesErr := plane.Sides(l, b)
	zero := areaErr == api.OK || area == 0
	zero = zero && (simpleErr == api.OK || !simple)
	zero = zero && (windingErr == api.OK || winding == 0)
	zero = zero && (whereErr == api.OK || where == 0)
	zero = zero && (sidesErr == api.OK || sides == 0)
	return map[string]api.Errno{"P2.4: Area": areaErr, "P2.4: Simple": simpleErr, "P2.5: Winding": windingErr, "P2.6: Where": whereErr, "P2.12: Sides": sidesErr}, zero
}

func TestPolygonErrors(t *testing.T) {
	wrong, wrongBox := at(0, limit+1), box(1, 0, 0, 0)
	good, goodBox := at(1, 1), box(1, 2, 1, 2)
	for _, l := range [][]api.Point{nil, {}, path(0, 0), path(0, 0, 4, 0), {wrong, wrong}, slices.Repeat(path(0, 0), 201), slices.Repeat([]api.Point{wrong}, 201), append(comb(2, 5), at(0, 1))} {
		for _, p := range []api.Point{good, wrong, at(0, 0)} {
			for _, b := range []api.Box{goodBox, wrongBox, box(-limit, limit, -limit, limit)} {
				errs, zero := onPolygon(l, p, b)
				for name, e := range errs {
					if e != api.ErrLimit || !zero {
						t.Errorf("%s of %d points, %v, %v: %d", name, len(l), p, b, e)
					}
				}
			}
		}
	}
	for _, w := range wrongPoints() {
		for i, l := range [][]api.Point{{w, at(4, 0), at(0, 4)}, {at(0, 0), w, at(0, 4)}, {at(0, 0), at(4, 0), w}, {w, at(0, 0), at(0, 0)}, {w, w, w}, append(comb(2, 5)[:199], w)} {
			for _, p := range []api.Point{good, wrong, at(0, 0)} {
				for _, b := range []api.Box{goodBox, wrongBox, box(-limit, limit, -limit, limit)} {
					errs, zero := onPolygon(l, p, b)
					for name, e := range errs {
						if e != api.ErrArg || !zero {
							t.Errorf("%s of polygon %d with %v, %v, %v: %d", name, i, w, p, b, e)
						}
					}
				}
			}
		}
	}
}

func TestArea(t *testing.T) {
	for _, x := range []struct {
		l    []api.Point
		want int
	}{
		{path(0, 0, 4, 0, 4, 3, 0, 3), 24},
		{path(0, 3, 4, 3, 4, 0, 0, 0), -24},
		{path(0, 0, 4, 0, 0, 3), 12},
		{path(10, 10, 14, 10, 10, 13), 12},
		{path(0, 0, 1, 0, 0, 1), 1},
		{path(0, 0, 4, 4, 4, 0, 0, 4), 0},
		{path(0, 0, 4, 0, 8, 0), 0},
		{path(5, 7, 5, 7, 5, 7), 0},
		{path(0, 0, 2, 0, 2, 2, 0, 2, 0, 0, 2, 0, 2, 2, 0, 2), 16},
		{path(-limit, -limit, limit, -limit, limit, limit, -limit, limit), 1 << 43},
		{slices.Repeat(path(-limit, limit, limit, limit, limit, -limit, -limit, -limit), 50), -50 << 43},
		{comb(2, 5), 2*197*2 + 2*4*197},
	} {
		if got, e := plane.Area(x.l); got != x.want || e != api.OK {
			t.Errorf("P2.4: Area of %v is %d, %d, not %d", x.l, got, e, x.want)
		}
		if got, e := plane.Area(turned(x.l)); got != -x.want || e != api.OK {
			t.Errorf("P2.4: Area of %v turned round is %d, %d, not %d", x.l, got, e, -x.want)
		}
	}
}

func TestSimpleOfExamples(t *testing.T) {
	for _, x := range []struct {
		name string
		l    []api.Point
		want bool
	}{
		{"a triangle", path(0, 0, 4, 0, 0, 3), true},
		{"a rectangle", path(0, 0, 4, 0, 4, 3, 0, 3), true},
		{"a rectangle, walked clockwise", path(0, 3, 4, 3, 4, 0, 0, 0), true},
		{"crossed", path(0, 0, 4, 0, 0, 3, 4, 3), false},
		{"a corner on a side", path(0, 0, 4, 0, 2, 1, 4, 2, 0, 2), true},
		{"a corner in the middle of a straight side", path(0, 0, 2, 0, 4, 0, 4, 3, 0, 3), true},
		{"flat", path(0, 0, 4, 0, 8, 0), false},
		{"flat, and back", path(0, 0, 8, 0, 4, 0), false},
		{"a spike", path(0, 0, 4, 0, 4, 3, 4, 1, 0, 1), false},
		{"a spike at the last corner", path(0, 0, 4, 0, 4, 3, -2, 0), true},
		{"the last edge goes back", path(0, 0, 4, 0, 4, 3, 2, 0), false},
		{"neighbours are equal", path(0, 0, 4, 0, 4, 0, 4, 3), false},
		{"the last corner is the first one", path(0, 0, 4, 0, 4, 3, 0, 0), false},
		{"a corner comes again", path(0, 0, 2, 0, 2, 2, 4, 2, 4, 4, 2, 2), false},
		{"a corner touches an edge", path(0, 0, 4, 0, 4, 4, 2, 0, 0, 4), false},
		{"an edge lies on another one", path(0, 0, 6, 0, 6, 2, 4, 2, 4, 0, 2, 0, 2, 2, 0, 2), false},
		{"the last edge crosses the first one", path(0, 0, 4, 0, 4, 4, 2, -2, 1, 5), false},
		{"one point", path(1, 1, 1, 1, 1, 1), false},
		{"the greatest", path(-limit, -limit, limit, -limit, limit, limit, -limit, limit), true},
		{"a thin one", path(-limit, -limit, limit, limit-1, limit, limit), true},
		{"200 corners", comb(2, 5), true},
		{"200 corners, the last edge crosses", append(comb(2, 5)[:199], at(3, -1)), false},
		{"200 corners, of which two are equal", append(comb(2, 5)[:199], at(0, 0)), false},
		{"200 corners, a tooth touches", append(append(comb(2, 5)[:99], at(297, 0)), comb(2, 5)[100:]...), false},
	} {
		for _, l := range [][]api.Point{x.l, turned(x.l), append(slices.Clone(x.l[1:]), x.l[0])} {
			if got, e := plane.Simple(l); got != x.want || e != api.OK || got != isSimple(l) {
				t.Errorf("P2.4: %s: Simple of %v is %v, %d", x.name, l, got, e)
			}
		}
	}
}

// polygons calls a function with all polygons whose corners are of some points, with 3 to n corners, the last of which are the same in one call and can be changed.
func polygons(points []api.Point, n int, look func(l []api.Point)) {
	var l []api.Point
	var more func()
	more = func() {
		if len(l) >= 3 {
			look(l)
		}
		if len(l) == n {
			return
		}
		for _, p := range points {
			l = append(l, p)
			more()
			l = l[:len(l)-1]
		}
	}
	more()
}

func TestSimple(t *testing.T) {
	seen := map[bool]int{}
	polygons(grid(0, 2), 5, func(l []api.Point) {
		got, e := plane.Simple(l)
		if got != isSimple(l) || e != api.OK {
			t.Fatalf("P2.4: Simple of %v is %v, %d", l, got, e)
		}
		seen[got]++
	})
	r := rand.New(rand.NewPCG(2, 4))
	for range 20000 {
		l := randomPoints(r, 4+r.IntN(4), 0, 6)
		if got, e := plane.Simple(l); got != isSimple(l) || e != api.OK {
			t.Fatalf("P2.4: Simple of %v is %v, %d", l, got, e)
		}
	}
	if seen[true] < 1000 || seen[false] < 1000 {
		t.Errorf("P2.4: these polygons test little: %v", seen)
	}
}

func TestWindingOfExamples(t *testing.T) {
	square := path(0, 0, 4, 0, 4, 4, 0, 4)
	twice := path(0, 0, 9, 0, 9, 9, 0, 9, 0, 1, 8, 1, 8, 8, 1, 8, 1, 2)
	eight := path(0, 0, 4, 4, 4, 0, 0, 4)
	for _, x := range []struct {
		l    []api.Point
		p    api.Point
		want int
	}{
		{square, at(1, 1), 1},
		{turned(square), at(1, 1), -1},
		{square, at(5, 4), 0},
		{square, at(-1, 0), 0},
		{square, at(-1, 4), 0},
		{square, at(2, 9), 0},
		{append(slices.Clone(square), square...), at(2, 2), 2},
		{turned(append(slices.Clone(square), square...)), at(2, 2), -2},
		{slices.Repeat(square, 50), at(2, 2), 50},
		{twice, at(4, 4), 2},
		{path(0, 0, 10, 0, 10, 6, 0, 6, 0, 2, 8, 2, 8, 4, 0, 4), at(9, 3), 1},
		{eight, at(3, 2), -1},
		{eight, at(1, 2), 1},
		{path(0, 0, 4, 0, 8, 0), at(4, 1), 0},
		{path(5, 5, 5, 5, 5, 5), at(5, 6), 0},
		{path(-limit, -limit, limit, -limit, limit, limit, -limit, limit), at(limit-1, limit-1), 1},
		{path(-limit, -limit, limit, limit-1, limit, limit), at(2-limit, 1-limit), 0},
		{path(-limit, -limit, limit, limit-2, limit, limit), at(limit-1, limit-2), 1},
		{comb(2, 5), at(2, 2), 1},
		{comb(2, 5), at(4, 2), 0},
	} {
		if got, e := plane.Winding(x.l, x.p); got != x.want || e != api.OK {
			t.Errorf("P2.5: Winding of %v, %v is %d, %d, not %d", x.l, x.p, got, e, x.want)
		}
	}
	for _, p := range path(0, 0, 4, 0, 4, 4, 0, 4, 2, 0, 4, 2, 2, 4, 0, 2) {
		if got, e := plane.Winding(square, p); got != 0 || e != api.ErrState {
			t.Errorf("P2.5: Winding of an edge at %v is %d, %d", p, got, e)
		}
	}
	for _, l := range [][]api.Point{path(5, 7, 5, 7, 5, 7), path(5, 7, 5, 7, 9, 9), path(3, 7, 9, 7, 7, 7), path(5, 6, 5, 9, 5, 6)} {
		if got, e := plane.Winding(l, at(5, 7)); got != 0 || e != api.ErrState {
			t.Errorf("P2.5: Winding of the polygon %v is %d, %d", l, got, e)
		}
	}
	for _, p := range wrongPoints() {
		if got, e := plane.Winding(square, p); got != 0 || e != api.ErrArg {
			t.Errorf("P2.5: Winding of %v is %d, %d", p, got, e)
		}
	}
}

func TestWinding(t *testing.T) {
	r := rand.New(rand.NewPCG(2, 5))
	seen := map[int]int{}
	look := func(l []api.Point, p api.Point) {
		want, wantErr := 0, api.ErrState
		if !isOnEdge(l, p) {
			want, wantErr = turnsAround(l, p), api.OK
			seen[want]++
		}
		if got, e := plane.Winding(l, p); got != want || e != wantErr {
			t.Fatalf("P2.5: Winding of %v, %v is %d, %d, not %d, %d", l, p, got, e, want, wantErr)
		}
	}
	polygons(grid(0, 2), 4, func(l []api.Point) {
		for _, p := range grid(-1, 3) {
			look(l, p)
		}
	})
	for range 20000 {
		size := 3 + r.IntN(6)
		look(randomPoints(r, 3+r.IntN(12), 0, size), randomPoint(r, -1, size+1))
	}
	for range 3000 {
		l := append(star(r, 3+r.IntN(4), 6), star(r, 3+r.IntN(4), 6)...)
		look(l, randomPoint(r, -4, 4))
		look(turned(l), randomPoint(r, -4, 4))
	}
	for _, n := range []int{-2, -1, 0, 1, 2} {
		if seen[n] < 100 {
			t.Errorf("P2.5: these polygons test little: %v", seen)
		}
	}
}

func TestWhereOfExamples(t *testing.T) {
	square := path(0, 0, 4, 0, 4, 3, 0, 3)
	for p, want := range map[api.Point]int{at(1, 1): 1, at(4, 2): 0, at(5, 5): -1, at(0, 0): 0, at(4, 3): 0, at(2, 0): 0, at(5, 0): -1, at(-1, 3): -1, at(limit, -limit): -1} {
		for _, l := range [][]api.Point{square, turned(square)} {
			if got, e := plane.Where(l, p); got != want || e != api.OK {
				t.Errorf("P2.6: Where of %v, %v is %d, %d, not %d", l, p, got, e, want)
			}
		}
	}
	crossed := path(0, 0, 4, 0, 0, 3, 4, 3)
	for _, l := range [][]api.Point{crossed, path(1, 1, 1, 1, 1, 1), path(0, 0, 4, 0, 8, 0), path(0, 0, 4, 0, 4, 3, 0, 0)} {
		for _, p := range path(0, 0, 1, 1, 9, 9, 2, 0) {
			if got, e := plane.Where(l, p); got != 0 || e != api.ErrState {
				t.Errorf("P2.6: Where of %v, %v is %d, %d", l, p, got, e)
			}
		}
	}
	for _, p := range wrongPoints() {
		for _, l := range [][]api.Point{square, crossed} {
			if got, e := plane.Where(l, p); got != 0 || e != api.ErrArg {
				t.Errorf("P2.6: Where of %v, %v is %d, %d", l, p, got, e)
			}
		}
	}
}

func TestWhere(t *testing.T) {
	seen := map[int]int{}
	look := func(l []api.Point, p api.Point) {
		want, wantErr := 0, api.ErrState
		if isSimple(l) {
			want, wantErr = side(l, p), api.OK
			seen[want]++
		}
		if got, e := plane.Where(l, p); got != want || e != wantErr {
			t.Fatalf("P2.6: Where of %v, %v is %d, %d, not %d, %d", l, p, got, e, want, wantErr)
		}
	}
	polygons(grid(0, 2), 4, func(l []api.Point) {
		for _, p := range grid(-1, 3) {
			look(l, p)
		}
	})
	r := rand.New(rand.NewPCG(2, 6))
	for range 3000 {
		l := star(r, 4+r.IntN(8), 6)
		for range 5 {
			look(l, randomPoint(r, -7, 7))
		}
	}
	for _, p := range pointsOf(box(-1, 60, -1, 9)) {
		look(comb(3, 8), p)
	}
	if seen[-1] < 1000 || seen[0] < 1000 || seen[1] < 1000 {
		t.Errorf("P2.6: these polygons test little: %v", seen)
	}
}

func TestPolygonConsequences(t *testing.T) {
	r := rand.New(rand.NewPCG(2, 15))
	simple := 0
	for range 4000 {
		l := star(r, 3+r.IntN(6), 7)
		if r.IntN(2) == 0 {
			l = turned(l)
		}
		area, _ := plane.Area(l)
		if got, e := plane.Area(turned(l)); got != -area || e != api.OK {
			t.Fatalf("P2.15: Area of %v is %d, turned round %d", l, area, got)
		}
		first := r.IntN(len(l))
		if got, e := plane.Area(append(slices.Clone(l[first:]), l[:first]...)); got != area || e != api.OK {
			t.Fatalf("P2.15: Area of %v is %d, from corner %d on %d", l, area, first, got)
		}
		if is, _ := plane.Simple(l); !is {
			continue
		}
		simple++
		if area == 0 {
			t.Fatalf("P2.15: Area of the simple polygon %v is 0", l)
		}
		for range 10 {
			checkInside(t, l, randomPoint(r, -8, 8), area)
		}
	}
	if simple < 1000 {
		t.Errorf("P2.15: only %d polygons are simple", simple)
	}
}

// checkInside checks that the winding of a simple polygon with this area is as it must be at a point.
func checkInside(t *testing.T, l []api.Point, p api.Point, area int) {
	t.Helper()
	where, _ := plane.Where(l, p)
	if where == 0 {
		return
	}
	want := 0
	if where == 1 {
		want = sign(area)
	}
	if got, e := plane.Winding(l, p); got != want || e != api.OK {
		t.Fatalf("P2.15: Winding of %v with the area %d is %d at %v, which is on side %d", l, area, got, p, where)
	}
}
