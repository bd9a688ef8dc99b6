package stone_test

import (
	"slices"
	"testing"

	"boundstone/api"
	"boundstone/stone"
)

const (
	same     = api.GaSame
	moved    = api.GaMoved
	replaced = api.GaReplaced
)

func TestExamplesOfCourses(t *testing.T) {
	l := example()
	for _, x := range []struct {
		course []int
		want   bool
	}{
		{[]int{same, same}, false}, {[]int{same, moved}, false}, {[]int{moved, moved}, true}, {[]int{replaced, moved}, true},
		{[]int{moved, same}, false}, {[]int{replaced, same}, false}, {[]int{moved, replaced}, false}, {[]int{replaced, replaced}, false}, {[]int{same, replaced}, false},
	} {
		if is, e := stone.Fits(l, x.course); is != x.want || e != api.OK {
			t.Errorf("P5.3: Fits of %v is %v, %d", x.course, is, e)
		}
		want := api.ErrClash
		if x.want {
			want = api.OK
		}
		results := withCourse(l, x.course)
		delete(results, "Fits")
		delete(results, "True")
		errorsAre(t, "P5.3, P5.6", results, want)
	}
	boxes, e := stone.Places(l, []int{moved, moved})
	if !slices.Equal(boxes, []api.Box{box(0, 5, 0, 5), box(7, 9, 3, 9), box(17, 19, 3, 4)}) || e != api.OK {
		t.Errorf("P5.3: Places of moved, moved is %v, %d", boxes, e)
	}
	boxes, e = stone.Places(l, []int{replaced, moved})
	if !slices.Equal(boxes, []api.Box{box(4, 5, 0, 5), box(7, 8, 3, 8), box(17, 18, 3, 4)}) || e != api.OK {
		t.Errorf("P5.3: Places of replaced, moved is %v, %d", boxes, e)
	}
	letters, e := stone.Letters(l, []int{replaced, moved})
	if !slices.Equal(letters, []string{"A.", "AB", "AB"}) || e != api.OK {
		t.Errorf("P5.3: Letters of replaced, moved is %v, %d", letters, e)
	}
	heights, e := stone.Heights(life(l.Habit, l.Sights[:2]...), []int{same})
	if !slices.Equal(heights, []api.Span{span(20, 30), span(10, 25)}) || e != api.OK {
		t.Errorf("P5.3: Heights of same is %v, %d", heights, e)
	}
}

func TestExamplesOfKinds(t *testing.T) {
	l := example()
	if sums, e := stone.Kinds(l); !slices.Equal(sums, []int{6, 2}) || e != api.OK {
		t.Errorf("P5.4: Kinds is %v, %d", sums, e)
	}
	if counts, e := stone.Courses(l); !slices.Equal(counts, []int{0, 0, 2}) || e != api.OK {
		t.Errorf("P5.4: Courses is %v, %d", counts, e)
	}
	if course, e := stone.Least(l); changesOf(course) != 2 || len(course) != 2 || e != api.OK {
		t.Errorf("P5.4: Least is %v, %d", course, e)
	}
	if ids, e := stone.Needs(l); !slices.Equal(ids, []int{1, 3}) || e != api.OK {
		t.Errorf("P5.7: Needs is %v, %d", ids, e)
	}
	if course, e := stone.Least(impossible()); len(course) != 0 || e != api.ErrClash {
		t.Errorf("P5.4: Least of an impossible life is %v, %d", course, e)
	}
	if sums, e := stone.Kinds(impossible()); len(sums) != 0 || e != api.ErrClash {
		t.Errorf("P5.4: Kinds of an impossible life is %v, %d", sums, e)
	}
	if counts, e := stone.Courses(impossible()); !slices.Equal(counts, []int{0, 0, 0}) || e != api.OK {
		t.Errorf("P5.4: Courses of an impossible life is %v, %d", counts, e)
	}
	// Without the sight 2 the note is about no gap, but the other sights are too far from each other.
	if ids, e := stone.Needs(impossible()); !slices.Equal(ids, []int{1, 3, 4}) || e != api.OK {
		t.Errorf("P5.7: Needs of an impossible life is %v, %d", ids, e)
	}
}

// onceSeen returns a life with one sight.
func onceSeen() api.Life { return life(habit(10, 3, 1), sight(8, 1700, box(0, 5, 2, 5), "A.", 20, 30)) }

func TestOneSight(t *testing.T) {
	moves, stays := note(4, moved, 0, lastYear), note(5, same, 1700, 1700)
	for _, x := range []struct {
		l      api.Life
		counts int
		want   api.Errno
		needs  []int
	}{
		{onceSeen(), 1, api.OK, nil}, {noting(onceSeen(), stays), 1, api.OK, nil},
		{noting(onceSeen(), moves), 0, api.ErrClash, []int{4}}, {noting(onceSeen(), stays, moves), 0, api.ErrClash, []int{4}},
		{noting(onceSeen(), moves, note(3, replaced, 0, lastYear)), 0, api.ErrClash, nil},
	} {
		errorsAre(t, "P5.3 to P5.6", withCourse(x.l, nil), x.want, "Fits", "True")
		errorsAre(t, "P5.4, P5.5", withLife(x.l, 1700, 0), x.want, "Courses", "Needs")
		if is, e := stone.Fits(x.l, []int{}); is != (x.want == api.OK) || e != api.OK {
			t.Errorf("P5.3: Fits of one sight is %v, %d", is, e)
		}
		if counts, e := stone.Courses(x.l); !slices.Equal(counts, []int{x.counts}) || e != api.OK {
			t.Errorf("P5.4: Courses of one sight is %v, %d", counts, e)
		}
		if ids, e := stone.Needs(x.l); !slices.Equal(ids, x.needs) || e != api.OK {
			t.Errorf("P5.7: Needs of one sight is %v, %d, not %v", ids, e, x.needs)
		}
	}
	sums, e := stone.Kinds(onceSeen())
	course, f := stone.Least(onceSeen())
	if len(sums)+len(course) != 0 || e != api.OK || f != api.OK {
		t.Errorf("P5.4: Kinds and Least of one sight are %v, %d and %v, %d", sums, e, course, f)
	}
	boxes, e := stone.Places(onceSeen(), nil)
	if !slices.Equal(boxes, []api.Box{box(0, 5, 2, 5)}) || e != api.OK {
		t.Errorf("P5.3: Places of one sight is %v, %d", boxes, e)
	}
}

// twice returns a life with two sights of the same point, so many years apart.
func twice(h api.Habit, years int, one, two api.Sight) api.Life {
	one.ID, two.ID, one.Year, two.Year = 1, 2, 1700, 1700+years
	return life(h, one, two)
}

func TestConditions(t *testing.T) {
	plain := func(x, y int, letters string, height int) api.Sight {
		return sight(0, 0, box(x, x, y, y), letters, height, height)
	}
	zero := plain(0, 0, "A", 50)
	h := habit(10, 5, 2)
	fits := func(l api.Life) []int {
		var kinds []int
		for kind := range 3 {
			if is, _ := stone.Fits(l, []int{kind}); is {
				kinds = append(kinds, kind)
			}
		}
		return kinds
	}
	for i, x := range []struct {
		l    api.Life
		want []int
	}{
		{twice(h, 1, zero, zero), []int{same, moved, replaced}},
		{twice(h, 3, zero, plain(0, 0, "A", 44)), []int{same, moved, replaced}},
		{twice(h, 3, zero, plain(0, 0, "A", 43)), []int{moved, replaced}},
		{twice(h, 1, zero, plain(0, 0, "A", 51)), []int{moved, replaced}},
		{twice(h, 1, zero, plain(0, 0, "B", 50)), []int{replaced}},
		{twice(h, 1, zero, plain(0, 0, "AA", 50)), []int{replaced}},
		{twice(h, 1, zero, plain(0, 0, "..", 0)), []int{replaced}},
		{twice(h, 1, zero, plain(0, 0, ".", 100)), []int{moved, replaced}},
		{twice(h, 1, zero, plain(1, 0, "A", 50)), []int{moved, replaced}},
		{twice(h, 1, zero, plain(0, -1, "A", 50)), []int{moved, replaced}},
		{twice(h, 1, zero, plain(5, -5, "A", 50)), []int{moved, replaced}},
		{twice(h, 1, zero, plain(6, 0, "A", 50)), []int{moved}},
		{twice(h, 1, zero, plain(0, -6, "A", 50)), []int{moved}},
		{twice(h, 1, zero, plain(-10, 10, "A", 50)), []int{moved}},
		{twice(h, 1, zero, plain(-10, 11, "A", 50)), nil},
		{twice(h, 1, zero, plain(11, 0, "A", 50)), nil},
		{twice(h, 1, zero, plain(-6, 0, "B", 50)), nil},
		{twice(habit(5, 10, 2), 1, zero, plain(-6, 0, "A", 50)), []int{replaced}},
		{twice(habit(0, 0, 0), lastYear-1700, zero, zero), []int{same, moved, replaced}},
		{twice(habit(0, 0, 0), lastYear-1700, zero, plain(0, 0, "A", 49)), []int{moved, replaced}},
		{twice(habit(0, 0, 20), 5, plain(0, 0, "A", 100), plain(0, 0, "A", 0)), []int{same, moved, replaced}},
		{twice(habit(0, 0, 20), 4, plain(0, 0, "A", 100), plain(0, 0, "A", 19)), []int{moved, replaced}},
		{twice(habit(10000, 9999, 0), 1, plain(limit, -limit, "A", 0), plain(limit-10000, 10000-limit, "A", 0)), []int{moved}},
		{twice(habit(9999, 10000, 0), 1, plain(limit, -limit, "A", 0), plain(limit-10000, 10000-limit, "A", 0)), []int{replaced}},
	} {
		if kinds := fits(x.l); !slices.Equal(kinds, x.want) {
			t.Errorf("P5.3: the kinds of the gap %d are %v, not %v", i, kinds, x.want)
		}
	}
}

func TestNotes(t *testing.T) {
	one := sight(1, 1700, box(0, 0, 0, 0), "A", 50, 50)
	two, three := one, one
	two.ID, two.Year, three.ID, three.Year = 2, 1710, 3, 1720
	l := life(api.Habit{}, one, two, three)
	all := lists(2, 2)
	without := func(k int, kinds ...int) [][]int {
		return slices.DeleteFunc(slices.Clone(all), func(c []int) bool { return slices.Contains(kinds, c[k]) })
	}
	with := func(kind int, gaps ...int) [][]int {
		return slices.DeleteFunc(slices.Clone(all), func(c []int) bool {
			return !slices.ContainsFunc(gaps, func(k int) bool { return c[k] == kind })
		})
	}
	stay := [][]int{{same, same}}
	for _, x := range []struct {
		n    api.Note
		want [][]int
	}{
		{note(9, same, 1700, 1720), stay}, {note(9, same, 0, lastYear), stay},
		{note(9, same, 1700, 1710), without(0, moved, replaced)}, {note(9, same, 1700, 1719), without(0, moved, replaced)},
		{note(9, same, 1701, 1720), without(1, moved, replaced)}, {note(9, same, 1710, 1720), without(1, moved, replaced)},
		{note(9, same, 1701, 1719), all}, {note(9, same, 1700, 1709), all}, {note(9, same, 1711, 1720), all}, {note(9, same, 0, 1700), all},
		{note(9, moved, 1700, 1720), with(moved, 0, 1)}, {note(9, moved, 0, lastYear), with(moved, 0, 1)},
		{note(9, moved, 1710, 1710), with(moved, 0, 1)}, {note(9, moved, 1709, 1709), with(moved, 0)}, {note(9, moved, 1711, 1711), with(moved, 1)},
		{note(9, moved, 0, 1700), with(moved, 0)}, {note(9, moved, 1720, lastYear), with(moved, 1)}, {note(9, moved, 1700, 1709), with(moved, 0)},
		{note(9, moved, 0, 1699), nil}, {note(9, moved, 1721, lastYear), nil},
		{note(9, replaced, 1705, 1715), with(replaced, 0, 1)}, {note(9, replaced, 1700, 1709), with(replaced, 0)}, {note(9, replaced, 1720, 1720), with(replaced, 1)},
		{note(9, replaced, 0, 1699), nil}, {note(9, replaced, 1721, 1721), nil},
	} {
		for _, course := range all {
			is, e := stone.Fits(noting(l, x.n), course)
			want := slices.ContainsFunc(x.want, func(c []int) bool { return slices.Equal(c, course) })
			if is != want || e != api.OK {
				t.Errorf("P5.3: Fits of %v with the note %v is %v, %d", course, x.n, is, e)
			}
		}
	}
}

// checkCourse compares what is told of a course with the forms that a life has in what has it.
func checkCourse(t *testing.T, l api.Life, course []int, forms [][]form) {
	t.Helper()
	is, e := stone.Fits(l, course)
	if is != (forms != nil) || e != api.OK {
		t.Fatalf("P5.3: Fits of %v for %v is %v, %d", course, l, is, e)
	}
	if forms == nil {
		results := withCourse(l, course)
		delete(results, "Fits")
		delete(results, "True")
		errorsAre(t, "P5.3, P5.6", results, api.ErrClash)
		return
	}
	boxes, e := stone.Places(l, course)
	heights, f := stone.Heights(l, course)
	letters, g := stone.Letters(l, course)
	if e != api.OK || f != api.OK || g != api.OK || len(boxes) != len(forms) || len(heights) != len(forms) || len(letters) != len(forms) {
		t.Fatalf("P5.3: Places, Heights and Letters of %v for %v are %v, %d, %v, %d and %v, %d", course, l, boxes, e, heights, f, letters, g)
	}
	for k, forms := range forms {
		points, rises := map[api.Point]bool{}, map[int]bool{}
		high := span(forms[0].height, forms[0].height)
		for _, f := range forms {
			points[f.at], rises[f.height] = true, true
			high = span(min(high.Lo, f.height), max(high.Hi, f.height))
		}
		b := boxes[k]
		if b != boxOf(forms) || len(points) != (b.X.Hi-b.X.Lo+1)*(b.Y.Hi-b.Y.Lo+1) {
			t.Fatalf("P5.3: the place %d of %v for %v is %v, not %v", k, course, l, b, boxOf(forms))
		}
		if heights[k] != high || len(rises) != high.Hi-high.Lo+1 {
			t.Fatalf("P5.3: the height %d of %v for %v is %v, not %v", k, course, l, heights[k], high)
		}
		if letters[k] != patternOf(forms) {
			t.Fatalf("P5.3: the letters %d of %v for %v are %q, not %q", k, course, l, letters[k], patternOf(forms))
		}
	}
}

// patternOf returns what the letters of all forms have in common.
func patternOf(l []form) string {
	pattern := []byte(l[0].letters)
	for _, f := range l {
		for i := range pattern {
			if f.letters[i] != pattern[i] {
				pattern[i] = '.'
			}
		}
	}
	return string(pattern)
}

// checkKinds compares what is told of all courses with those that a life can have had.
func checkKinds(t *testing.T, l api.Life, x truth) {
	t.Helper()
	sums, counts := make([]int, len(l.Sights)-1), make([]int, len(l.Sights))
	for _, course := range x.courses {
		counts[changesOf(course)]++
		for k, kind := range course {
			sums[k] |= []int{1, 2, 4}[kind]
		}
	}
	want := api.OK
	if len(x.courses) == 0 {
		sums, want = nil, api.ErrClash
	}
	if got, e := stone.Kinds(l); !slices.Equal(got, sums) || e != want {
		t.Fatalf("P5.4: Kinds of %v is %v, %d, not %v", l, got, e, sums)
	}
	if got, e := stone.Courses(l); !slices.Equal(got, counts) || e != api.OK {
		t.Fatalf("P5.4: Courses of %v is %v, %d, not %v", l, got, e, counts)
	}
	course, e := stone.Least(l)
	if e != want || e != api.OK && len(course) > 0 {
		t.Fatalf("P5.4: Least of %v is %v, %d", l, course, e)
	}
	if e == api.OK && (x.forms[textOf(course)] == nil || changesOf(course) != x.fewest()) {
		t.Fatalf("P5.4: Least of %v is %v, but one needs %d changes", l, course, x.fewest())
	}
}

func TestCoursesOfRandomLives(t *testing.T) {
	r := newRand(5, 3)
	possible, left := map[bool]int{}, map[int]int{}
	for i := range 1200 {
		l, _ := randomLife(r, small)
		if i%3 > 0 {
			l = spoilt(r, l, small)
		}
		x := truthOf(l)
		for _, course := range coursesOf(l) {
			checkCourse(t, l, course, x.forms[textOf(course)])
		}
		checkKinds(t, l, x)
		possible[len(x.courses) > 0]++
		left[len(x.courses)]++
	}
	if possible[true] < 500 || possible[false] < 100 || len(left) < 10 {
		t.Errorf("P5.3: these lives test little: %v, %v", possible, left)
	}
}

func TestFullLife(t *testing.T) {
	l := full()
	l.Notes = nil
	counts, e := stone.Courses(l)
	// Of 8 gaps some are changes, each of 2 kinds: binomial coefficients, times powers of 2.
	if !slices.Equal(counts, []int{1, 16, 112, 448, 1120, 1792, 1792, 1024, 256}) || e != api.OK {
		t.Errorf("P5.4: Courses of a life with 9 sights is %v, %d", counts, e)
	}
	if sums, e := stone.Kinds(l); !slices.Equal(sums, slices.Repeat([]int{7}, 8)) || e != api.OK {
		t.Errorf("P5.4: Kinds of a life with 9 sights is %v, %d", sums, e)
	}
	if course, e := stone.Least(full()); changesOf(course) != 2 || len(course) != 8 || e != api.OK {
		t.Errorf("P5.4: Least of a life with 9 sights and 20 notes is %v, %d", course, e)
	}
	if ids, e := stone.Needs(full()); len(ids) != 0 || e != api.OK {
		t.Errorf("P5.7: Needs of a life with 9 sights and 20 notes is %v, %d", ids, e)
	}
}

func TestNeedsOfRandomLives(t *testing.T) {
	r := newRand(5, 7)
	needed := map[int]int{}
	for i := range 500 {
		l, _ := randomLife(r, small)
		if i%4 > 0 {
			l = spoilt(r, l, small)
		}
		few := truthOf(l).fewest()
		var want []int
		for _, id := range idsOf(l) {
			if rest := less(l, id); len(rest.Sights) > 0 && truthOf(rest).fewest() < few {
				want = append(want, id)
			}
		}
		if ids, e := stone.Needs(l); !slices.Equal(ids, want) || e != api.OK {
			t.Fatalf("P5.7: Needs of %v is %v, %d, not %v", l, ids, e, want)
		}
		needed[len(want)]++
	}
	if needed[0] < 50 || needed[1] < 50 || needed[2] < 50 {
		t.Errorf("P5.7: these lives test little: %v", needed)
	}
}
