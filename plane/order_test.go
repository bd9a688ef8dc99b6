package plane_test

import (
	"cmp"
	"math"
	"math/rand/v2"
	"slices"
	"testing"

	"boundstone/api"
	"boundstone/plane"
)

func least(l []api.Point) api.Point {
	return slices.MinFunc(l, func(a, b api.Point) int {
		return cmp.Or(cmp.Compare(a.X, b.X), cmp.Compare(a.Y, b.Y))
	})
}

// isHull reports whether points are the corners of the hull of a list, by all of what is said of a hull.
func isHull(hull, l []api.Point) bool {
	if len(hull) == 0 || hull[0] != least(l) {
		return false
	}
	n := len(hull)
	for i, a := range hull {
		b, c := hull[(i+1)%n], hull[(i+2)%n]
		if !slices.Contains(l, a) || n > 1 && a == b || n > 2 && area(a, b, c) <= 0 {
			return false
		}
		for _, p := range l {
			if n == 1 && p != a || n == 2 && !isOn(api.Segment{A: a, B: b}, p) || n > 2 && area(a, b, p) < 0 {
				return false
			}
		}
	}
	return true
}

func TestHullOfExamples(t *testing.T) {
	for _, x := range []struct{ l, want []api.Point }{
		{path(2, 1, 0, 0, 4, 0, 2, 0, 0, 3), path(0, 0, 4, 0, 0, 3)},
		{path(5, -7), path(5, -7)},
		{path(5, 7, 5, 7, 5, 7), path(5, 7)},
		{path(3, 3, 1, 1, 2, 2), path(1, 1, 3, 3)},
		{path(2, 9, 2, 1, 2, 5, 2, 9), path(2, 1, 2, 9)},
		{path(9, 2, 1, 2, 5, 2), path(1, 2, 9, 2)},
		{path(1, 3, 3, 1), path(1, 3, 3, 1)},
		{path(0, 3, 0, 0, 4, 3, 4, 0), path(0, 0, 4, 0, 4, 3, 0, 3)},
		{path(0, 1, 0, 3, 0, 0, 4, 3, 4, 0, 4, 2, 1, 3, 2, 1), path(0, 0, 4, 0, 4, 3, 0, 3)},
		{path(2, 0, 0, 2, 2, 4, 4, 2), path(0, 2, 2, 0, 4, 2, 2, 4)},
		{path(limit, limit, -limit, limit, -limit, -limit, limit, -limit, 0, 0, 0, limit), path(-limit, -limit, limit, -limit, limit, limit, -limit, limit)},
		{path(-limit, -limit, limit, limit, limit-1, limit-2, limit, limit-1), path(-limit, -limit, limit-1, limit-2, limit, limit-1, limit, limit)},
		{path(-limit, -limit, 0, 0, limit, limit), path(-limit, -limit, limit, limit)},
	} {
		if got, e := plane.Hull(x.l); !slices.Equal(got, x.want) || e != api.OK {
			t.Errorf("P2.7: Hull of %v is %v, %d, not %v", x.l, got, e, x.want)
		}
	}
}

func TestHull(t *testing.T) {
	sizes := map[int]int{}
	look := func(l []api.Point) {
		got, e := plane.Hull(l)
		if !isHull(got, l) || e != api.OK {
			t.Fatalf("P2.7: Hull of %v is %v, %d", l, got, e)
		}
		sizes[len(got)]++
	}
	polygons(grid(0, 2), 5, look)
	r := rand.New(rand.NewPCG(2, 7))
	for range 5000 {
		look(randomPoints(r, 1+r.IntN(30), -4, 4))
	}
	for range 100 {
		look(randomPoints(r, 200, -limit, limit))
		look(randomPoints(r, 200, -3, 3))
	}
	var bow []api.Point
	for i := range 200 {
		bow = append(bow, at(i, i*i))
	}
	look(bow)
	look(turned(bow))
	if got, _ := plane.Hull(turned(bow)); !slices.Equal(got, bow) {
		t.Errorf("P2.7: the hull of a bow of 200 points is %v", got)
	}
	for n := 1; n <= 8; n++ {
		if sizes[n] == 0 {
			t.Errorf("P2.7: these points test little: %v", sizes)
		}
	}
}

func TestHullErrors(t *testing.T) {
	wrong := at(limit+1, 0)
	for _, l := range [][]api.Point{nil, {}, slices.Repeat(path(0, 0), 201), slices.Repeat([]api.Point{wrong}, 201)} {
		if got, e := plane.Hull(l); len(got) != 0 || e != api.ErrLimit {
			t.Errorf("P2.7: Hull of %d points is %v, %d", len(l), got, e)
		}
	}
	for _, w := range wrongPoints() {
		for _, l := range [][]api.Point{{w}, {w, at(0, 0)}, {at(0, 0), at(1, 0), w, at(0, 1)}, append(slices.Repeat(path(0, 0), 199), w)} {
			if got, e := plane.Hull(l); len(got) != 0 || e != api.ErrArg {
				t.Errorf("P2.7: Hull of %v is %v, %d", l, got, e)
			}
		}
	}
	if got, e := plane.Hull(slices.Repeat(path(3, 4), 200)); !slices.Equal(got, path(3, 4)) || e != api.OK {
		t.Errorf("P2.7: Hull of 200 equal points is %v, %d", got, e)
	}
}

func TestHullConsequences(t *testing.T) {
	r := rand.New(rand.NewPCG(2, 16))
	for range 3000 {
		l := randomPoints(r, 1+r.IntN(20), -5, 5)
		hull, _ := plane.Hull(l)
		if again, e := plane.Hull(hull); !slices.Equal(again, hull) || e != api.OK {
			t.Fatalf("P2.16: Hull of the hull %v is %v", hull, again)
		}
		if other, _ := plane.Hull(turned(l)); !slices.Equal(other, hull) {
			t.Fatalf("P2.16: Hull of %v is %v, turned round %v", l, hull, other)
		}
		for i, a := range hull {
			b, c := hull[(i+1)%len(hull)], hull[(i+2)%len(hull)]
			if !slices.Contains(l, a) || len(hull) > 2 && plane.Turn(a, b, c) != 1 {
				t.Fatalf("P2.16: the hull %v of %v does not turn left at its points", hull, l)
			}
		}
		for _, p := range l {
			if len(hull) < 3 {
				continue
			}
			if where, e := plane.Where(hull, p); where < 0 || e != api.OK {
				t.Fatalf("P2.16: %v of %v is on side %d of the hull %v, %d", p, l, where, hull, e)
			}
		}
	}
}

// direction returns a point in the same direction from o that is nearest to it, and how often its way leads to p.
func direction(o, p api.Point) (api.Point, int) {
	x, y := p.X-o.X, p.Y-o.Y
	d := divisor(x, y)
	return at(x/d, y/d), d
}

// around returns the indices of points by their directions from o, found by angles.
func around(o api.Point, l []api.Point) []int {
	angle := func(p api.Point) float64 {
		a := math.Atan2(float64(p.Y), float64(p.X))
		if a < 0 {
			a += 2 * math.Pi
		}
		return a
	}
	var order []int
	for i := range l {
		order = append(order, i)
	}
	slices.SortFunc(order, func(i, k int) int {
		a, far := direction(o, l[i])
		b, farther := direction(o, l[k])
		if a != b {
			return cmp.Compare(angle(a), angle(b))
		}
		return cmp.Or(cmp.Compare(far, farther), cmp.Compare(i, k))
	})
	return order
}

func TestAroundOfExamples(t *testing.T) {
	for _, x := range []struct {
		o    api.Point
		l    []api.Point
		want []int
	}{
		{at(0, 0), path(0, 1, 2, 0, 1, 0, -1, -1), []int{2, 1, 0, 3}},
		{at(0, 0), nil, nil},
		{at(0, 0), path(3, 3), []int{0}},
		{at(0, 0), path(1, -1, 0, -1, -1, -1, -1, 0, -1, 1, 0, 1, 1, 1, 1, 0), []int{7, 6, 5, 4, 3, 2, 1, 0}},
		{at(7, -3), path(8, -4, 7, -4, 6, -4, 6, -3, 6, -2, 7, -2, 8, -2, 8, -3), []int{7, 6, 5, 4, 3, 2, 1, 0}},
		{at(0, 0), path(2, 2, 1, 1, 2, 2, 3, 3, 1, 1), []int{1, 4, 0, 2, 3}},
		{at(0, 0), path(-2, 0, -1, 0, 1, 0, -1, 0), []int{2, 1, 3, 0}},
		{at(1, 1), path(1, 0, 1, -1, 1, 3, 1, 2), []int{3, 2, 0, 1}},
		{at(0, 0), path(5, -1, 1000000, -1, 5, 0, 1000000, 1, 5, 1), []int{2, 3, 4, 0, 1}},
		{at(0, 0), path(limit, limit-1, limit-1, limit-2, limit, limit, 1, 1), []int{1, 0, 3, 2}},
		{at(-limit, -limit), path(limit, limit-1, limit, limit, limit-1, limit, limit-1, limit-1, limit-1, limit-2), []int{4, 0, 3, 1, 2}},
		{at(limit, limit), path(-limit, 1-limit, -limit, -limit, 1-limit, -limit, -limit, limit, limit, -limit), []int{3, 0, 1, 2, 4}},
	} {
		if got, e := plane.Around(x.o, x.l); !slices.Equal(got, x.want) || e != api.OK {
			t.Errorf("P2.8: Around %v of %v is %v, %d, not %v", x.o, x.l, got, e, x.want)
		}
	}
}

func TestAround(t *testing.T) {
	r := rand.New(rand.NewPCG(2, 8))
	for i := range 3000 {
		o := randomPoint(r, -3, 3)
		l := randomPoints(r, r.IntN(40), -4, 4)
		if i < 50 {
			l = randomPoints(r, 200, -20, 20)
		}
		l = slices.DeleteFunc(l, func(p api.Point) bool { return p == o })
		if got, e := plane.Around(o, l); !slices.Equal(got, around(o, l)) || e != api.OK {
			t.Fatalf("P2.8: Around %v of %v is %v, %d, not %v", o, l, got, e, around(o, l))
		}
	}
	if got, e := plane.Around(at(0, 0), slices.Repeat(path(1, 2), 200)); len(got) != 200 || !slices.IsSorted(got) || e != api.OK {
		t.Errorf("P2.8: Around of 200 equal points is %v, %d", got, e)
	}
}

func TestAroundErrors(t *testing.T) {
	wrong := at(0, -limit-1)
	for _, o := range []api.Point{at(0, 0), at(1, 1), wrong} {
		for _, l := range [][]api.Point{slices.Repeat(path(1, 1), 201), slices.Repeat([]api.Point{wrong}, 201)} {
			if got, e := plane.Around(o, l); len(got) != 0 || e != api.ErrLimit {
				t.Errorf("P2.8: Around %v of %d points is %v, %d", o, len(l), got, e)
			}
		}
	}
	for _, w := range wrongPoints() {
		for _, l := range [][]api.Point{{w}, {at(1, 0), w}, {w, at(1, 0)}, append(slices.Repeat(path(1, 1), 199), w)} {
			if got, e := plane.Around(at(0, 0), l); len(got) != 0 || e != api.ErrArg {
				t.Errorf("P2.8: Around of %v is %v, %d", l, got, e)
			}
		}
		for _, l := range [][]api.Point{nil, path(1, 1), {w}} {
			if got, e := plane.Around(w, l); len(got) != 0 || e != api.ErrArg {
				t.Errorf("P2.8: Around %v of %v is %v, %d", w, l, got, e)
			}
		}
	}
	for _, l := range [][]api.Point{path(2, 3), path(2, 3, 1, 1), path(1, 1, 4, 4, 2, 3), append(slices.Repeat(path(1, 1), 199), at(2, 3))} {
		if got, e := plane.Around(at(2, 3), l); len(got) != 0 || e != api.ErrArg {
			t.Errorf("P2.8: Around (2 3) of %v is %v, %d", l, got, e)
		}
	}
}

func TestListsStayAsTheyAre(t *testing.T) {
	l := path(4, 4, 0, 0, 4, 0, 0, 4, 2, 2)
	before := slices.Clone(l)
	first, _ := plane.Hull(l)
	plane.Around(at(9, 9), l)
	onPolygon(l, at(1, 1), box(0, 3, 0, 3))
	if !slices.Equal(l, before) {
		t.Errorf("R6: the points %v have become %v", before, l)
	}
	want := slices.Clone(first)
	for i := range first {
		first[i] = at(77, 77)
	}
	_ = append(first[:0], slices.Repeat(path(5, 5), cap(first))...)
	if second, _ := plane.Hull(l); !slices.Equal(second, want) || !slices.Equal(l, before) {
		t.Errorf("R6: the hull of %v is %v, and was %v before it was changed", l, second, want)
	}
	for _, points := range [][]api.Point{path(3, 4), path(1, 1, 2, 2)} {
		hull, _ := plane.Hull(points)
		hull[0] = at(77, 77)
		if points[0] == hull[0] {
			t.Error("R6: a hull shares memory with its points")
		}
	}
}
