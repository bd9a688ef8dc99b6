package stone_test

import (
	"math"
	"slices"
	"testing"

	"boundstone/api"
	"boundstone/stone"
)

func TestExamplesOfExtents(t *testing.T) {
	l := example()
	boxes, e := stone.Extents(l, 2)
	if !slices.Equal(boxes, []api.Box{box(0, 5, 0, 5), box(7, 9, 3, 9), box(17, 19, 3, 4)}) || e != api.OK {
		t.Errorf("P5.5: Extents is %v, %d", boxes, e)
	}
	for year, want := range map[int]api.Box{
		1700: box(0, 5, 0, 5), 1701: box(0, 9, 0, 9), 1709: box(0, 9, 0, 9), 1710: box(7, 9, 3, 9),
		1711: box(7, 19, 3, 9), 1715: box(7, 19, 3, 9), 1719: box(7, 19, 3, 9), 1720: box(17, 19, 3, 4),
	} {
		for _, changes := range []int{2, 3, math.MaxInt64} {
			if b, e := stone.In(l, year, changes); b != want || e != api.OK {
				t.Errorf("P5.5: In %d with %d changes is %v, %d, not %v", year, changes, b, e, want)
			}
		}
	}
}

func TestErrorsOfExtents(t *testing.T) {
	before := []int{1699, 0, -1, math.MinInt64}
	after := []int{1721, lastYear + 1, math.MaxInt64}
	for _, l := range []api.Life{example(), impossible()} {
		for _, changes := range []int{-1, math.MinInt64} {
			for _, year := range slices.Concat(before, after, []int{1700, 1705}) {
				if b, e := stone.In(l, year, changes); b != (api.Box{}) || e != api.ErrArg {
					t.Errorf("P5.5: In %d with %d changes is %v, %d", year, changes, b, e)
				}
			}
			if boxes, e := stone.Extents(l, changes); len(boxes) != 0 || e != api.ErrArg {
				t.Errorf("P5.5: Extents with %d changes is %v, %d", changes, boxes, e)
			}
		}
		for _, changes := range []int{0, 1, 2, math.MaxInt64} {
			for _, year := range slices.Concat(before, after) {
				if b, e := stone.In(l, year, changes); b != (api.Box{}) || e != api.ErrNone {
					t.Errorf("P5.5: In %d with %d changes is %v, %d", year, changes, b, e)
				}
			}
		}
	}
	clash := func(l api.Life, changes int) {
		if boxes, e := stone.Extents(l, changes); len(boxes) != 0 || e != api.ErrClash {
			t.Errorf("P5.5: Extents with %d changes is %v, %d", changes, boxes, e)
		}
		for _, year := range []int{1700, 1705, 1720} {
			if b, e := stone.In(l, year, changes); b != (api.Box{}) || e != api.ErrClash {
				t.Errorf("P5.5: In %d with %d changes is %v, %d", year, changes, b, e)
			}
		}
	}
	clash(example(), 0)
	clash(example(), 1)
	clash(impossible(), 2)
	clash(impossible(), math.MaxInt64)
	b, e := stone.In(onceSeen(), 1700, 0)
	if b != box(0, 5, 2, 5) || e != api.OK {
		t.Errorf("P5.5: In the year of one sight is %v, %d", b, e)
	}
	for _, year := range []int{1699, 1701} {
		if b, e := stone.In(onceSeen(), year, 0); b != (api.Box{}) || e != api.ErrNone {
			t.Errorf("P5.5: In %d of one sight is %v, %d", year, b, e)
		}
	}
}

// inOf returns the box in a year of a life, by its extents.
func inOf(l api.Life, boxes []api.Box, year int) api.Box {
	var b []api.Box
	for k, s := range l.Sights {
		before := k+1 < len(l.Sights) && s.Year <= year && l.Sights[k+1].Year > year
		behind := k > 0 && s.Year > year && l.Sights[k-1].Year < year
		if s.Year == year {
			return boxes[k]
		}
		if before || behind {
			b = append(b, boxes[k])
		}
	}
	return coverOf(b[0], b[1])
}

func TestExtentsOfRandomLives(t *testing.T) {
	r := newRand(5, 5)
	clashes, wider := 0, 0
	for i := range 1500 {
		l, _ := randomLife(r, small)
		if i%2 > 0 {
			l = spoilt(r, l, small)
		}
		x := truthOf(l)
		var before []api.Box
		for changes := range len(l.Sights) + 1 {
			want := x.extentsOf(changes)
			boxes, e := stone.Extents(l, changes)
			if want == nil {
				clashes++
				if len(boxes) != 0 || e != api.ErrClash {
					t.Fatalf("P5.5: Extents of %v with %d changes is %v, %d", l, changes, boxes, e)
				}
				continue
			}
			if !slices.Equal(boxes, want) || e != api.OK {
				t.Fatalf("P5.5: Extents of %v with %d changes is %v, %d, not %v", l, changes, boxes, e, want)
			}
			for year := l.Sights[0].Year; year <= l.Sights[len(l.Sights)-1].Year; year++ {
				if b, e := stone.In(l, year, changes); b != inOf(l, want, year) || e != api.OK {
					t.Fatalf("P5.5: In %d of %v with %d changes is %v, %d, not %v", year, l, changes, b, e, inOf(l, want, year))
				}
			}
			if before != nil && !slices.Equal(before, boxes) {
				wider++
			}
			checkWider(t, l, before, boxes)
			checkAttained(t, l, changes, boxes)
			before = boxes
		}
	}
	if clashes < 200 || wider < 200 {
		t.Errorf("P5.5: these lives test little: %d clashes, %d became wider", clashes, wider)
	}
}

// checkWider checks that extents with more changes are not smaller.
func checkWider(t *testing.T, l api.Life, few, more []api.Box) {
	t.Helper()
	for k := range few {
		if coverOf(few[k], more[k]) != more[k] {
			t.Fatalf("P5.13: the extent %d of %v became smaller with more changes: %v, %v", k, l, few[k], more[k])
		}
	}
}

// checkAttained checks that each side of extents is attained by what is true of a life: if the sight is seen there, there is an example.
func checkAttained(t *testing.T, l api.Life, changes int, boxes []api.Box) {
	t.Helper()
	for k, b := range boxes {
		for _, side := range []api.Box{
			{X: span(b.X.Lo, b.X.Lo), Y: b.Y}, {X: span(b.X.Hi, b.X.Hi), Y: b.Y},
			{X: b.X, Y: span(b.Y.Lo, b.Y.Lo)}, {X: b.X, Y: span(b.Y.Hi, b.Y.Hi)},
		} {
			there := copied(l)
			there.Sights[k].At = side
			course, e := stone.Least(there)
			x, f := stone.Example(there, course)
			if e != api.OK || f != api.OK || changesOf(course) > changes {
				t.Fatalf("P5.13: with %d changes nothing attains %v at the sight %d of %v", changes, side, k, l)
			}
			if id, is, e := stone.True(l, x); !is || e != api.OK {
				t.Fatalf("P5.13: %v, which attains %v, is not true of %v: %d, %d", x, side, l, id, e)
			}
		}
	}
}

func TestExtentsOfLargeLives(t *testing.T) {
	r := newRand(5, 13)
	for range 60 {
		l, x := randomLife(r, large)
		few := changesOf(x.Course)
		boxes, e := stone.Extents(l, few)
		if e != api.OK {
			t.Fatalf("P5.5: Extents of %v is %v, %d", l, boxes, e)
		}
		checkAttained(t, l, few, boxes)
		more, e := stone.Extents(l, few+1)
		if e != api.OK || len(more) != len(boxes) {
			t.Fatalf("P5.5: Extents of %v is %v, %d", l, more, e)
		}
		checkWider(t, l, boxes, more)
		for k, p := range x.Points {
			in, e := stone.In(l, l.Sights[k].Year, few)
			if in != boxes[k] || e != api.OK || coverOf(in, box(p.X, p.X, p.Y, p.Y)) != in {
				t.Fatalf("P5.5: the true point %v at the sight %d of %v is not in %v", p, k, l, in)
			}
		}
	}
}
