package stone_test

import (
	"math"
	"reflect"
	"slices"
	"testing"

	"boundstone/api"
	"boundstone/stone"
)

// goodSights returns sights at the limits.
func goodSights() []api.Sight {
	here := box(0, 0, 0, 0)
	return []api.Sight{
		sight(1, 0, here, ".", 0, 0),
		sight(greatID, lastYear, box(-limit, limit, -limit, limit), "ABCDEFGH", 0, 100),
		sight(5, 1700, box(limit, limit, -limit, -limit), "........", 100, 100),
		sight(7, 1, box(-3, 4, 5, 5), "AZ.", 7, 9),
	}
}

// wrongSights returns sights in which one thing is wrong.
func wrongSights() []api.Sight {
	good := sight(2, 1705, box(1, 2, 3, 4), "AB", 10, 20)
	var l []api.Sight
	add := func(spoil func(s *api.Sight)) {
		s := good
		spoil(&s)
		l = append(l, s)
	}
	for _, id := range []int{0, -1, greatID + 1, math.MinInt64, math.MaxInt64} {
		add(func(s *api.Sight) { s.ID = id })
	}
	for _, year := range []int{-1, lastYear + 1, math.MinInt64, math.MaxInt64} {
		add(func(s *api.Sight) { s.Year = year })
	}
	for _, b := range []api.Box{box(3, 2, 3, 4), box(1, 2, 5, 4), box(-limit-1, 2, 3, 4), box(1, limit+1, 3, 4), box(1, 2, -limit-1, 4), box(1, 2, 3, limit+1), box(math.MinInt64, math.MaxInt64, 3, 4)} {
		add(func(s *api.Sight) { s.At = b })
	}
	for _, letters := range []string{"", "a", "A ", "ABCDEFGHI", ".........", "A\x80", "?"} {
		add(func(s *api.Sight) { s.Letters = letters })
	}
	for _, h := range []api.Span{span(20, 19), span(-1, 20), span(0, 101), span(-1, -1), span(101, 101), span(math.MinInt64, 20), span(10, math.MaxInt64), span(100, 0)} {
		add(func(s *api.Sight) { s.Height = h })
	}
	return append(l, api.Sight{})
}

func wrongHabits() []api.Habit {
	var l []api.Habit
	for _, n := range []int{-1, 10001, math.MinInt64, math.MaxInt64} {
		l = append(l, habit(n, 0, 0), habit(0, n, 0))
	}
	for _, n := range []int{-1, 21, math.MinInt64, math.MaxInt64} {
		l = append(l, habit(0, 0, n))
	}
	return l
}

func wrongNotes() []api.Note {
	var l []api.Note
	for _, id := range []int{0, -1, greatID + 1, math.MinInt64, math.MaxInt64} {
		l = append(l, note(id, api.GaSame, 1700, 1710))
	}
	for _, kind := range []int{-1, 3, math.MinInt64, math.MaxInt64} {
		l = append(l, note(9, kind, 1700, 1710))
	}
	for _, s := range []api.Span{span(-1, 5), span(5, 4), span(5, lastYear+1), span(lastYear+1, lastYear+1), span(-2, -1), span(math.MinInt64, 5), span(5, math.MaxInt64)} {
		l = append(l, note(9, api.GaMoved, s.Lo, s.Hi))
	}
	return append(l, api.Note{})
}

func TestCheckSight(t *testing.T) {
	for _, s := range goodSights() {
		if e := stone.CheckSight(s); e != api.OK {
			t.Errorf("P5.2: the error of %v is %d", s, e)
		}
	}
	for _, s := range wrongSights() {
		if e := stone.CheckSight(s); e != api.ErrArg {
			t.Errorf("P5.2: the error of %v is %d", s, e)
		}
	}
}

func TestCheckAccepts(t *testing.T) {
	l := []api.Life{
		example(), impossible(), full(),
		life(habit(10000, 10000, 20), goodSights()[0], goodSights()[1]),
		noting(example(), note(greatID, api.GaSame, 0, 0), note(4, api.GaMoved, lastYear, lastYear), note(5, api.GaReplaced, 0, lastYear)),
	}
	for _, s := range goodSights() {
		l = append(l, life(api.Habit{}, s))
	}
	for _, l := range l {
		if e := stone.Check(l); e != api.OK {
			t.Errorf("P5.2: the error of %v is %d", l, e)
		}
	}
}

// wrongLives returns lives that Check does not accept, with its errors.
func wrongLives() map[api.Errno][]api.Life {
	bad := api.Sight{}
	good := example().Sights
	h := example().Habit
	more := func(n int) []api.Sight {
		var l []api.Sight
		for k := range n {
			l = append(l, sight(k+1, k, box(0, 0, 0, 0), "A", 0, 0))
		}
		return l
	}
	m := map[api.Errno][]api.Life{
		api.ErrLimit: {
			{}, {Notes: make([]api.Note, 3)}, life(h, more(10)...), life(h, make([]api.Sight, 10)...), life(h, slices.Repeat(good, 4)...),
			noting(example(), make([]api.Note, 21)...), noting(full(), note(21, 1, 0, lastYear)), noting(life(h, bad), make([]api.Note, 21)...),
		},
		api.ErrTwice: {
			noting(example(), note(1, api.GaSame, 0, 0)), noting(example(), note(3, api.GaMoved, 0, 0)),
			noting(example(), note(4, api.GaMoved, 0, 0), note(4, api.GaMoved, 0, 0)),
			noting(example(), note(4, api.GaMoved, 0, 0), note(5, api.GaMoved, 0, 0), note(4, api.GaSame, 0, 1)),
			life(h, good[0], good[1], sight(1, 1720, box(0, 0, 0, 0), "A", 0, 0)), life(h, good[0], sight(1, 1701, box(0, 0, 0, 0), "A", 0, 0)),
		},
		api.ErrArg: {
			life(h, bad), life(h, good[0], bad), life(h, good[1], good[0]), life(h, good[0], good[0]), life(h, good[0], good[2], good[1]),
			life(h, good[0], sight(9, 1700, box(0, 0, 0, 0), "A", 0, 0)),
			noting(example(), note(1, api.GaSame, 0, 0), api.Note{}), noting(life(h, good[0], good[0]), note(1, api.GaSame, 0, 0)),
			noting(example(), note(4, api.GaSame, 0, 0), note(4, api.GaSame, 0, 0), note(5, 3, 0, 0)),
		},
	}
	for _, h := range wrongHabits() {
		m[api.ErrArg] = append(m[api.ErrArg], life(h, good...), life(h), life(h, more(10)...), noting(life(h), make([]api.Note, 21)...))
	}
	for _, s := range wrongSights() {
		for k := range good {
			sights := slices.Clone(good)
			s.Year += good[k].Year - 1705
			sights[k] = s
			m[api.ErrArg] = append(m[api.ErrArg], life(h, sights...))
			s.Year -= good[k].Year - 1705
		}
	}
	for _, n := range wrongNotes() {
		m[api.ErrArg] = append(m[api.ErrArg], noting(example(), n), noting(example(), note(4, api.GaSame, 0, 0), n, note(5, api.GaSame, 0, 0)))
	}
	return m
}

func TestCheckRefuses(t *testing.T) {
	for want, l := range wrongLives() {
		for i, l := range l {
			if e := stone.Check(l); e != want {
				t.Errorf("P5.2: the error of the life %d, %v, is %d, not %d", i, l, e, want)
			}
		}
	}
}

// withCourse returns what each function with a life and a course returns: its results, and last the error.
func withCourse(l api.Life, course []int) map[string][]any {
	results := func(l ...any) []any { return l }
	n := len(l.Sights)
	x := api.Lived{Points: make([]api.Point, n), Letters: make([]string, n), Heights: make([]int, n), Course: course}
	return map[string][]any{
		"Fits":    results(stone.Fits(l, course)),
		"Places":  results(stone.Places(l, course)),
		"Heights": results(stone.Heights(l, course)),
		"Letters": results(stone.Letters(l, course)),
		"Example": results(stone.Example(l, course)),
		"True":    results(stone.True(l, x)),
	}
}

// withLife returns what each function with a life, but no course, returns.
func withLife(l api.Life, year, changes int) map[string][]any {
	results := func(l ...any) []any { return l }
	return map[string][]any{
		"Kinds":   results(stone.Kinds(l)),
		"Least":   results(stone.Least(l)),
		"Courses": results(stone.Courses(l)),
		"Extents": results(stone.Extents(l, changes)),
		"In":      results(stone.In(l, year, changes)),
		"Needs":   results(stone.Needs(l)),
	}
}

func errorsAre(t *testing.T, promise string, results map[string][]any, want api.Errno, but ...string) {
	t.Helper()
	checkNothing(t, results)
	for name, l := range results {
		if e := l[len(l)-1]; e != want && !slices.Contains(but, name) {
			t.Errorf("%s: the error of %s is %v, not %v", promise, name, e, want)
		}
	}
}

func TestErrorOfCheckComesFirst(t *testing.T) {
	for want, l := range wrongLives() {
		for _, l := range l {
			for _, course := range [][]int{nil, {0}, {0, 0}, {3}, {-1, 1, 1}} {
				errorsAre(t, "P5.2", withCourse(l, course), want)
			}
			errorsAre(t, "P5.2", withLife(l, -1, -1), want)
			errorsAre(t, "P5.2", withLife(l, 1705, 1), want)
			if id, is, e := stone.True(l, api.Lived{}); id != 0 || is || e != want {
				t.Errorf("P5.6: True of a life that is not valid is %d, %v, %d, not %d", id, is, e, want)
			}
		}
	}
}

func TestErrGap(t *testing.T) {
	bad := [][]int{nil, {}, {0}, {0, 0, 0}, {3, 0}, {0, 3}, {-1, 0}, {0, -1}, {0, math.MinInt64}, {math.MaxInt64, 0}, make([]int, 1<<16)}
	for _, l := range []api.Life{example(), impossible()} {
		for _, course := range bad {
			errorsAre(t, "P5.3, P5.6", withCourse(l, course), api.ErrGap)
			if id, is, e := stone.True(l, api.Lived{Course: course}); id != 0 || is || e != api.ErrGap {
				t.Errorf("P5.6: True with the course %v is %d, %v, %d", course, id, is, e)
			}
		}
		for _, course := range lists(2, 2) {
			for name, l := range withCourse(l, course) {
				if e := l[len(l)-1]; e == api.ErrGap {
					t.Errorf("P5.3, P5.6: the error of %s with the course %v is %v", name, course, e)
				}
			}
		}
	}
	alone := life(api.Habit{}, goodSights()[0])
	errorsAre(t, "P5.3, P5.6", withCourse(alone, []int{0}), api.ErrGap)
	errorsAre(t, "P5.3, P5.6", withCourse(alone, nil), api.OK)
	errorsAre(t, "P5.3, P5.6", withCourse(full(), make([]int, 7)), api.ErrGap)
	errorsAre(t, "P5.3, P5.6", withCourse(full(), make([]int, 9)), api.ErrGap)
}

// spoilResults writes into all lists of some results.
func spoilResults(results map[string][]any) {
	for _, l := range results {
		for _, x := range l {
			spoil(reflect.ValueOf(x))
		}
	}
}

func spoil(v reflect.Value) {
	switch v.Kind() {
	case reflect.Slice:
		for i := range v.Len() {
			v.Index(i).SetZero()
		}
		if v.Len() > 0 {
			reflect.Append(v.Slice(0, 0), reflect.Zero(v.Type().Elem()))
		}
	case reflect.Struct:
		for i := range v.NumField() {
			spoil(v.Field(i))
		}
	}
}

func TestMemory(t *testing.T) {
	for _, l := range []api.Life{example(), full(), life(api.Habit{}, goodSights()[3])} {
		before := copied(l)
		course := slices.Repeat([]int{api.GaReplaced}, len(l.Sights)-1)
		if len(course) > 0 {
			course[len(course)-1] = api.GaMoved
		}
		courseBefore := slices.Clone(course)
		all := func() []map[string][]any {
			return []map[string][]any{withCourse(l, course), withLife(l, l.Sights[0].Year, 8)}
		}
		first, second := all(), all()
		if !reflect.DeepEqual(first, second) {
			t.Errorf("R7: the results for %v differ", l)
		}
		for _, results := range first {
			spoilResults(results)
		}
		if !sameLife(l, before) || !slices.Equal(course, courseBefore) {
			t.Errorf("R6: the life %v became %v, the course %v", before, l, course)
		}
		if !reflect.DeepEqual(second, all()) {
			t.Errorf("R6: results for %v share memory", l)
		}
	}
}
