package walk_test

import (
	"reflect"
	"slices"
	"testing"

	"boundstone/api"
	"boundstone/search"
	"boundstone/walk"
)

func TestWhere(t *testing.T) {
	p, _ := walk.Problem(example(), 1710)
	for number, want := range map[int]api.Box{1: box(0, 0, 0, 0), 2: box(300, 300, 0, 0), 3: box(0, 0, 400, 400)} {
		x, e := walk.Where(example(), 1710, number)
		if x.Box != want || e != api.OK || search.CheckExtent(p, number-1, x) != api.OK {
			t.Errorf("P6.5: Where %d is %v, %d, not %v", number, x.Box, e, want)
		}
	}
	x, e := walk.Where(example(), 1709, 3)
	if x.Box != box(0, 4, 395, 405) || e != api.OK {
		t.Errorf("P6.5: Where 3 without walks is %v, %d", x.Box, e)
	}
}

// wide returns a parish with a stone whose box is too large to be searched, and a walk that names it.
func wide() api.Parish {
	p := example()
	p.Stones[2] = standing(3, box(0, 999, 0, 999))
	p.Walks[0].Legs = []api.Leg{leg(1, 3, -1, 1710, 700, 600)}
	return p
}

// contrary returns a parish with two walks of 1710 that contradict each other, one that does not matter, and one of another year.
func contrary() api.Parish {
	p := example()
	p.Walks = []api.Walk{
		{ID: 9, Year: 1710, Legs: []api.Leg{leg(1, 3, api.North, 1710, 400, 0)}},
		{ID: 4, Year: 1710, Legs: []api.Leg{leg(1, 2, api.East, 1710, 300, 0)}},
		{ID: 7, Year: 1710, Legs: []api.Leg{leg(3, 1, -1, 1710, 401, 0)}},
		{ID: 2, Year: 1711, Legs: []api.Leg{leg(2, 3, -1, 1711, 495, 0)}},
	}
	return p
}

func TestErrorsOfWhere(t *testing.T) {
	for _, year := range []int{-1, lastYear + 1} {
		wantError(t, "P6.5: Where in no year", api.ErrArg, all(walk.Where(example(), year, 3))...)
	}
	for _, number := range []int{0, -1, 4} {
		wantError(t, "P6.5: Where of no stone", api.ErrNone, all(walk.Where(example(), 1710, number))...)
		wantError(t, "P6.5: Where of no stone of a wide problem", api.ErrNone, all(walk.Where(wide(), 1710, number))...)
		wantError(t, "P6.5: Where of no stone of a contradiction", api.ErrNone, all(walk.Where(contrary(), 1710, number))...)
	}
	wantError(t, "P6.5: Where of an absent stone", api.ErrNone, all(walk.Where(spread(), 1703, 3))...)
	wantError(t, "P6.5: Where of a wide problem", api.ErrLimit, all(walk.Where(wide(), 1710, 1))...)
	wantError(t, "P6.5: Where of a contradiction", api.ErrClash, all(walk.Where(contrary(), 1710, 1))...)
	wantError(t, "P6.5: Where of an impossible life", api.ErrClash, all(walk.Where(clashing(), 1705, 1))...)
}

// shifting returns a parish with a stone that was seen in 1700 and in 1720 in the same box, that can have been moved, and that lies so far from another one in 1705 and in 1715.
func shifting(first, second int) api.Parish {
	p := parish([]api.Marked{
		standing(1, one(at(0, 0))),
		marked(2, 3, 0, sight(1, 1700, box(10, 12, 0, 0)), sight(2, 1720, box(10, 12, 0, 0))),
	}, api.Walk{ID: 1, Year: 1705, Legs: []api.Leg{leg(1, 2, -1, 1705, first, 0)}}, api.Walk{ID: 2, Year: 1715, Legs: []api.Leg{leg(1, 2, -1, 1715, second, 0)}})
	p.Changes = 1
	return p
}

func TestMoved(t *testing.T) {
	for _, x := range []struct {
		what   string
		p      api.Parish
		number int
		years  [2]int
		want   api.Answer
	}{
		{"without changes", example(), 3, [2]int{1700, 1720}, api.No},
		{"elsewhere", shifting(10, 12), 2, [2]int{1705, 1715}, api.Yes},
		{"of the same distance", shifting(11, 11), 2, [2]int{1705, 1715}, api.No},
		{"when it is not known where it was", shifting(11, 11), 2, [2]int{1700, 1720}, api.Open},
		{"when it is not known where it was later", shifting(11, 11), 2, [2]int{1705, 1720}, api.Open},
		{"of another one", shifting(10, 12), 1, [2]int{1705, 1715}, api.No},
	} {
		if answer, e := walk.Moved(x.p, x.number, x.years[0], x.years[1]); answer != x.want || e != api.OK {
			t.Errorf("P6.5: Moved %s is %d, %d, not %d", x.what, answer, e, x.want)
		}
	}
}

func TestErrorsOfMoved(t *testing.T) {
	for _, years := range [][2]int{{1705, 1705}, {1715, 1705}, {-1, 1705}, {1705, lastYear + 1}} {
		for _, p := range []api.Parish{example(), wide(), contrary(), clashing()} {
			wantError(t, "P6.5: Moved in no years", api.ErrArg, all(walk.Moved(p, 9, years[0], years[1]))...)
		}
	}
	for _, p := range []api.Parish{example(), wide(), contrary()} {
		wantError(t, "P6.5: Moved of no stone", api.ErrNone, all(walk.Moved(p, 9, 1710, 1711))...)
	}
	for _, years := range [][2]int{{1702, 1703}, {1701, 1702}} {
		wantError(t, "P6.5: Moved of an absent stone", api.ErrNone, all(walk.Moved(spread(), 3, years[0], years[1]))...)
	}
	wantError(t, "P6.5: Moved of a wide problem", api.ErrLimit, all(walk.Moved(wide(), 1, 1710, 1711))...)
	wantError(t, "P6.5: Moved of a contradiction", api.ErrClash, all(walk.Moved(contrary(), 1, 1709, 1710))...)
	wantError(t, "P6.5: Moved of an impossible life", api.ErrClash, all(walk.Moved(clashing(), 1, 1705, 1710))...)
	wantError(t, "P6.5: Moved farther than it can", api.ErrClash, all(walk.Moved(shifting(10, 13), 2, 1705, 1715))...)
}

func TestDisputed(t *testing.T) {
	for _, x := range []struct {
		years, want []int
	}{{[]int{1710}, []int{7, 9}}, {[]int{1710, 1711}, []int{7, 9}}, {[]int{1700, 1710}, []int{7, 9}}} {
		l, e := walk.Disputed(contrary(), x.years)
		if !slices.Equal(l, x.want) || e != api.OK {
			t.Errorf("P6.5: Disputed in %v is %v, %d", x.years, l, e)
		}
	}
	p, _ := walk.Without(contrary(), []int{7})
	l, e := walk.Disputed(p, []int{1710, 1711})
	if !slices.Equal(l, []int{2, 9}) || e != api.OK {
		t.Errorf("P6.5: Disputed of two years is %v, %d", l, e)
	}
	wantError(t, "P6.5: Disputed of what agrees", api.ErrNone, all(walk.Disputed(p, []int{1710}))...)
	wantError(t, "P6.5: Disputed of a wide problem", api.ErrLimit, all(walk.Disputed(wide(), []int{1710}))...)
	wantError(t, "P6.5: Disputed of an impossible life", api.ErrClash, all(walk.Disputed(clashing(), []int{1705}))...)
}

func TestStonesOfRandomParishes(t *testing.T) {
	r := newRand(6, 5)
	var answers [4]int
	cores, extents := 0, 0
	for i := range 400 {
		p := randomWorld(r, []scale{tiny, small, large}[i%3]).parish
		if i%2 > 0 {
			p = spoilt(r, p)
		}
		year := []int{1704, 1705, 1706, 1706}[r.IntN(4)]
		q := slowJoint(p, []int{year})
		places, _ := slowPlaces(p, []int{year})
		for point, s := range places {
			want, wanted := search.Extent(q, point)
			x, e := walk.Where(p, year, s.Number)
			if e != wanted || !reflect.DeepEqual(x.Box, want.Box) || e == api.OK && search.CheckExtent(q, point, x) != api.OK {
				t.Fatalf("P6.5: Where %v of %v is %v, %d, not %v, %d", s, p, x.Box, e, want.Box, wanted)
			}
			if e == api.OK {
				extents++
			}
		}
		years := []int{year, []int{1707, 1709, 1712}[r.IntN(3)]}
		q = slowJoint(p, years)
		if len(q.Boxes) > 12 {
			continue
		}
		want, wanted := search.Core(q)
		l, e := walk.Disputed(p, years)
		if !slices.Equal(l, want) || e != wanted {
			t.Fatalf("P6.5: Disputed in %v of %v is %v, %d, not %v, %d", years, p, l, e, want, wanted)
		}
		cores += len(l)
		checkMoved(t, p, years, q, &answers)
	}
	if slices.Contains(answers[1:], 0) || cores < 20 || extents < 300 {
		t.Errorf("P6.5: these parishes test little: answers %v, accounts of cores %d, extents %d", answers, cores, extents)
	}
}

// checkMoved checks Moved of all stones against the solutions of the problem of two years, and counts the answers.
func checkMoved(t *testing.T, p api.Parish, years []int, q api.Problem, answers *[4]int) {
	t.Helper()
	solutions, e := search.All(q)
	if e != api.OK {
		return
	}
	places, _ := slowPlaces(p, years)
	for _, s := range p.Stones {
		a, b := slices.Index(places, api.Stood{Number: s.Number, Year: years[0]}), slices.Index(places, api.Stood{Number: s.Number, Year: years[1]})
		if a < 0 || b < 0 {
			wantError(t, "P6.5: Moved of an absent stone", api.ErrNone, all(walk.Moved(p, s.Number, years[0], years[1]))...)
			continue
		}
		stayed, moved := 0, 0
		for _, l := range solutions {
			if l[a] == l[b] {
				stayed++
			} else {
				moved++
			}
		}
		want := api.Open
		if moved == 0 {
			want = api.No
		} else if stayed == 0 {
			want = api.Yes
		}
		answer, e := walk.Moved(p, s.Number, years[0], years[1])
		if answer != want || e != api.OK {
			t.Fatalf("P6.5: Moved of %d in %v of %v is %d, %d, not %d", s.Number, years, p, answer, e, want)
		}
		answers[answer]++
	}
}
