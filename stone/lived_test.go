package stone_test

import (
	"math"
	"slices"
	"testing"

	"boundstone/api"
	"boundstone/stone"
)

func copiedLived(x api.Lived) api.Lived {
	return api.Lived{Points: slices.Clone(x.Points), Letters: slices.Clone(x.Letters), Heights: slices.Clone(x.Heights), Course: slices.Clone(x.Course)}
}

// wrongAt returns the ID of the first sight or note of which something is not true, by the conditions 1 to 6; 0 if there is none.
func wrongAt(l api.Life, x api.Lived) int {
	formAt := func(k int) form { return form{x.Points[k], x.Letters[k], x.Heights[k]} }
	for k, s := range l.Sights {
		p, high := x.Points[k], x.Heights[k]
		if p.X < s.At.X.Lo || p.X > s.At.X.Hi || p.Y < s.At.Y.Lo || p.Y > s.At.Y.Hi || high < s.Height.Lo || high > s.Height.Hi {
			return s.ID
		}
		if !stone.Reads(x.Letters[k], s.Letters) {
			return s.ID
		}
		if k > 0 && !follows(l.Habit, x.Course[k-1], s.Year-l.Sights[k-1].Year, formAt(k-1), formAt(k)) {
			return s.ID
		}
	}
	for _, n := range l.Notes {
		if !keeps(l, n, x.Course) {
			return n.ID
		}
	}
	return 0
}

func checkTrue(t *testing.T, l api.Life, x api.Lived) int {
	t.Helper()
	want := wrongAt(l, x)
	if id, is, e := stone.True(l, x); id != want || is != (want == 0) || e != api.OK {
		t.Fatalf("P5.6: True of %v and %v is %d, %v, %d, not %d", l, x, id, is, e, want)
	}
	return want
}

// lived returns what is true of the chapter's example.
func lived() api.Lived {
	return api.Lived{
		Points:  []api.Point{at(4, 5), at(7, 8), at(17, 4)},
		Letters: []string{"AX", "AB", "AB"},
		Heights: []int{20, 25, 0},
		Course:  []int{replaced, moved},
	}
}

func TestTrueOfExamples(t *testing.T) {
	l := noting(example(), note(8, replaced, 1700, 1700), note(7, moved, 1720, 1720), note(9, same, 1701, 1719), note(6, moved, 1711, 1711))
	for i, x := range []struct {
		spoil func(x *api.Lived)
		want  int
	}{
		{func(x *api.Lived) {}, 0},
		{func(x *api.Lived) { x.Points[0].X = 6 }, 1},
		{func(x *api.Lived) { x.Points[0].Y = -1 }, 1},
		{func(x *api.Lived) { x.Points[0] = at(math.MinInt64, math.MaxInt64) }, 1},
		{func(x *api.Lived) { x.Points[1] = at(math.MaxInt64, math.MinInt64) }, 2},
		{func(x *api.Lived) { x.Points[0].X = 3 }, 2},
		{func(x *api.Lived) { x.Points[1].Y = 9 }, 2},
		{func(x *api.Lived) { x.Points[1].Y = 2 }, 2},
		{func(x *api.Lived) { x.Points[2].X = 18 }, 3},
		{func(x *api.Lived) { x.Points[2].Y = 5 }, 3},
		{func(x *api.Lived) { x.Letters[0] = "BX" }, 1},
		{func(x *api.Lived) { x.Letters[0] = "A." }, 1},
		{func(x *api.Lived) { x.Letters[0] = "" }, 1},
		{func(x *api.Lived) { x.Letters[0] = "AXX" }, 1},
		{func(x *api.Lived) { x.Letters[0] = "Ax" }, 1},
		{func(x *api.Lived) { x.Letters[1] = "XB" }, 3},
		{func(x *api.Lived) { x.Letters[1] = "AX" }, 2},
		{func(x *api.Lived) { x.Letters[1] = ".B" }, 2},
		{func(x *api.Lived) { x.Letters[2] = "AX" }, 3},
		{func(x *api.Lived) { x.Heights[0] = 19 }, 1},
		{func(x *api.Lived) { x.Heights[0] = 31 }, 1},
		{func(x *api.Lived) { x.Heights[1] = math.MinInt64 }, 2},
		{func(x *api.Lived) { x.Heights[2] = 41 }, 3},
		{func(x *api.Lived) { x.Heights[2] = math.MaxInt64 }, 3},
		{func(x *api.Lived) { x.Course[0] = same }, 2},
		{func(x *api.Lived) { x.Course[0] = moved }, 2},
		{func(x *api.Lived) { x.Course[0], x.Letters[0] = moved, "AB" }, 8},
		{func(x *api.Lived) { x.Course[1], x.Points[2].X = replaced, 17 }, 3},
	} {
		y := lived()
		x.spoil(&y)
		if id, is, e := stone.True(l, y); id != x.want || is != (x.want == 0) || e != api.OK {
			t.Errorf("P5.6: True %d is %d, %v, %d, not %d", i, id, is, e, x.want)
		}
		checkTrue(t, l, y)
	}
	// The first note that is not so, in their order.
	for _, notes := range [][]api.Note{
		{note(8, same, 0, lastYear), note(4, same, 0, lastYear)}, {note(4, moved, 0, 1709), note(8, replaced, 1711, 1711)}, {note(9, moved, 1710, 1710), note(8, replaced, 1711, 1711)},
	} {
		l := noting(example(), notes...)
		if id := checkTrue(t, l, lived()); id == 0 {
			t.Errorf("P5.6: with the notes %v all is true", notes)
		}
	}
}

func TestErrorsOfTrue(t *testing.T) {
	for i, spoil := range []func(x *api.Lived){
		func(x *api.Lived) { x.Points = x.Points[:2] },
		func(x *api.Lived) { x.Letters = x.Letters[:2] },
		func(x *api.Lived) { x.Heights = nil },
		func(x *api.Lived) { x.Points = append(x.Points, api.Point{}) },
		func(x *api.Lived) { x.Letters = append(x.Letters, "") },
		func(x *api.Lived) { x.Heights = append(x.Heights, 5) },
		func(x *api.Lived) { x.Points, x.Letters, x.Heights = nil, nil, nil },
	} {
		x := lived()
		spoil(&x)
		if id, is, e := stone.True(example(), x); id != 0 || is || e != api.ErrArg {
			t.Errorf("P5.6: True %d is %d, %v, %d", i, id, is, e)
		}
		x.Course = []int{0, 3}
		if id, is, e := stone.True(example(), x); id != 0 || is || e != api.ErrGap {
			t.Errorf("P5.6: True %d with a kind that is none is %d, %v, %d", i, id, is, e)
		}
	}
}

// mistaken returns what was, with one mistake.
func mistaken(r interface{ IntN(int) int }, l api.Life, x api.Lived) api.Lived {
	x = copiedLived(x)
	k := r.IntN(len(x.Points))
	by := []int{-1, 1, -2, 2, 5}[r.IntN(5)]
	switch r.IntN(5) {
	case 0:
		x.Points[k].X += by
	case 1:
		x.Points[k].Y += by
	case 2:
		x.Heights[k] += by
	case 3:
		b := []byte(x.Letters[k])
		b[r.IntN(len(b))] = alphabet[r.IntN(4)]
		x.Letters[k] = string(b)
	case 4:
		if len(x.Course) > 0 {
			x.Course[r.IntN(len(x.Course))] = r.IntN(3)
		}
	}
	return x
}

func TestTrueOfRandomLives(t *testing.T) {
	r := newRand(5, 6)
	wrong := map[string]int{}
	for i := range 20000 {
		c := small
		if i%4 == 0 {
			c = large
		}
		l, x := randomLife(r, c)
		if checkTrue(t, l, x) != 0 {
			t.Fatalf("P5.6: %v is not true of %v", x, l)
		}
		id := checkTrue(t, l, mistaken(r, l, x))
		switch {
		case id == 0:
			wrong["nothing"]++
		case slices.ContainsFunc(l.Notes, func(n api.Note) bool { return n.ID == id }):
			wrong["a note"]++
		default:
			wrong["a sight"]++
		}
	}
	if wrong["nothing"] < 500 || wrong["a note"] < 50 || wrong["a sight"] < 500 {
		t.Errorf("P5.6: these lives test little: %v", wrong)
	}
}

// checkExample checks what Example returns for a course of a life.
func checkExample(t *testing.T, l api.Life, course []int) {
	t.Helper()
	x, e := stone.Example(l, course)
	if is, _ := stone.Fits(l, course); !is {
		if e != api.ErrClash || !sameLived(x, api.Lived{}) {
			t.Fatalf("P5.6: Example of %v for %v, which it cannot have had, is %v, %d", course, l, x, e)
		}
		return
	}
	if e != api.OK || !slices.Equal(x.Course, course) {
		t.Fatalf("P5.6: Example of %v for %v is %v, %d", course, l, x, e)
	}
	if checkTrue(t, l, x) != 0 {
		t.Fatalf("P5.11: the example %v is not true of %v", x, l)
	}
}

func TestExamplesOfRandomLives(t *testing.T) {
	r := newRand(5, 11)
	for i := range 600 {
		l, _ := randomLife(r, small)
		if i%2 > 0 {
			l = spoilt(r, l, small)
		}
		for _, course := range coursesOf(l) {
			checkExample(t, l, course)
		}
	}
	for range 100 {
		l, x := randomLife(r, large)
		checkExample(t, l, x.Course)
		for range 100 {
			course := slices.Clone(x.Course)
			for k := range course {
				if r.IntN(3) == 0 {
					course[k] = r.IntN(3)
				}
			}
			checkExample(t, l, course)
		}
	}
}
