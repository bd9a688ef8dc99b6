package custom_test

import (
	"math"
	"math/rand/v2"
	"slices"
	"strings"
	"testing"

	"boundstone/api"
	"boundstone/custom"
)

// rule returns a custom whose clauses are a source.
func rule(id, from, to int, source string) api.Custom {
	return api.Custom{ID: id, From: from, To: to, Clauses: clauses(source)}
}

// several returns a source with so many clauses.
func several(n int) string { return strings.Repeat("p.", n) }

// wrongCustoms returns customs that are not valid, with the error and the index.
func wrongCustoms() []struct {
	l     []api.Custom
	want  api.Errno
	index int
} {
	unformed := api.Custom{ID: 9, To: 5, Clauses: []api.Clause{clause(atom("P"))}}
	unsafe, cyclic := rule(9, 0, 5, "p(X)."), rule(9, 0, 5, "p if not p.")
	long := api.Custom{ID: 9, To: 5, Clauses: slices.Repeat(clauses("p(X)."), 41)}
	many := make([]api.Custom, 31)
	l := []struct {
		l     []api.Custom
		want  api.Errno
		index int
	}{
		{many, api.ErrLimit, 0},
		{make([]api.Custom, 30), api.ErrArg, 0},
		{[]api.Custom{unformed}, api.ErrForm, 0},
		{[]api.Custom{rule(1, 0, 0, ""), unformed}, api.ErrForm, 1},
		{[]api.Custom{rule(1, 0, 0, ""), rule(2, 0, 0, ""), unsafe}, api.ErrUnsafe, 2},
		{[]api.Custom{unsafe, {}}, api.ErrUnsafe, 0},
		{[]api.Custom{rule(1, 0, 0, ""), {}, unsafe}, api.ErrArg, 1},
		{[]api.Custom{long}, api.ErrLimit, 0},
		{[]api.Custom{rule(1, 0, 0, ""), long}, api.ErrLimit, 0},
		{[]api.Custom{rule(1, 0, 0, "p."), rule(1, 0, 0, "p.")}, api.ErrTwice, 1},
		{[]api.Custom{rule(1, 0, 0, "p."), rule(3, 0, 0, "p."), rule(2, 0, 0, "p.")}, api.ErrTwice, 2},
		{[]api.Custom{rule(3, 0, 0, ""), rule(4, 0, 0, ""), rule(3, 0, 0, "")}, api.ErrTwice, 2},
		{[]api.Custom{rule(9, 0, 0, ""), unsafe}, api.ErrTwice, 1},
		{[]api.Custom{rule(9, 0, 0, ""), rule(9, 1, 0, "")}, api.ErrArg, 1},
		{[]api.Custom{cyclic}, api.ErrCycle, 0},
		{[]api.Custom{rule(1, 0, 4, "p."), cyclic, {}}, api.ErrArg, 2}, // the years come last
		{[]api.Custom{rule(1, 0, 9, several(40)), rule(2, 9, 9, "p."), rule(3, 0, 0, ""), unsafe}, api.ErrUnsafe, 3},
		{[]api.Custom{rule(1, 3, 9, "p if q."), rule(2, 9, 12, "q if not p.")}, api.ErrCycle, 0},
		{[]api.Custom{rule(1, 9, 12, "p if q."), rule(2, 3, 9, "q if not p.")}, api.ErrCycle, 0},
		{[]api.Custom{rule(1, 3, 9, several(40)), rule(2, 9, 12, "p.")}, api.ErrLimit, 0},
		{[]api.Custom{rule(1, 4000, 4000, several(20)), rule(2, 0, 4000, several(20)), rule(3, 4000, 4000, "q.")}, api.ErrLimit, 0},
		{[]api.Custom{rule(1, 0, 9, several(40)), rule(2, 9, 9, "q if not q.")}, api.ErrLimit, 0}, // in one year ErrLimit comes first
		{[]api.Custom{rule(1, 5, 9, several(40)), rule(2, 4, 9, "q if not q.")}, api.ErrCycle, 0}, // the first year counts
		{[]api.Custom{rule(1, 0, 9, several(40)), rule(2, 6, 6, "q."), rule(3, 7, 7, "q if not q.")}, api.ErrLimit, 0},
		{[]api.Custom{rule(1, 0, 9, several(40)), rule(2, 6, 6, "q."), rule(3, 12, 12, "q if not q.")}, api.ErrLimit, 0},
		{[]api.Custom{rule(1, 10, 19, several(40)), rule(2, 16, 16, "q."), rule(3, 2, 2, "q if not q.")}, api.ErrCycle, 0},
	}
	for _, c := range []api.Custom{{ID: 0}, {ID: -1}, {ID: greatID + 1}, {ID: math.MinInt64}, {ID: 5, From: -1}, {ID: 5, From: -2, To: -1}, {ID: 5, From: 1}, {ID: 5, From: 8, To: 7}, {ID: 5, To: lastYear + 1}, {ID: 5, From: lastYear + 1, To: lastYear + 1}, {ID: 5, From: math.MinInt64, To: math.MaxInt64}, {ID: 1, From: 3, To: 2}} {
		l = append(l, struct {
			l     []api.Custom
			want  api.Errno
			index int
		}{[]api.Custom{rule(1, 0, 0, "p."), c}, api.ErrArg, 1})
	}
	return l
}

func TestCheckCustoms(t *testing.T) {
	var most []api.Custom
	for i := range 30 {
		most = append(most, rule(greatID-29+i, 0, lastYear, "q(X) if r(X)."))
	}
	for _, l := range [][]api.Custom{
		nil, most, {rule(1, 0, lastYear, several(40))}, {rule(1, lastYear, lastYear, ""), rule(7, 0, 0, example)},
		{rule(1, 0, 8, several(40)), rule(2, 9, 9, several(40)), rule(3, 10, lastYear, several(40))},
		{rule(1, 3, 9, "p if q."), rule(2, 10, 12, "q if not p.")},
	} {
		if e, i := custom.CheckCustoms(l); e != api.OK || i != 0 {
			t.Errorf("P8.8: CheckCustoms of %v is %d, %d", l, e, i)
		}
	}
	for _, c := range wrongCustoms() {
		if e, i := custom.CheckCustoms(c.l); e != c.want || i != c.index {
			t.Errorf("P8.8: CheckCustoms of %v is %d, %d, not %d, %d", c.l, e, i, c.want, c.index)
		}
	}
}

// slowForce returns the clauses of the customs of a year.
func slowForce(l []api.Custom, year int) []api.Clause {
	var m []api.Clause
	for _, c := range l {
		if c.From <= year && year <= c.To {
			m = append(m, c.Clauses...)
		}
	}
	return m
}

// slowYears returns the first error of a year.
func slowYears(l []api.Custom) api.Errno {
	for year := range lastYear + 1 {
		m := slowForce(l, year)
		if len(m) > 40 {
			return api.ErrLimit
		}
		if !slowStratified(m) {
			return api.ErrCycle
		}
	}
	return api.OK
}

// randomCustoms returns customs whose years are among the first ones, or the last ones.
func randomCustoms(r *rand.Rand) []api.Custom {
	var l []api.Custom
	id := 0
	for range r.IntN(6) {
		id += 1 + r.IntN(3)
		c := api.Custom{ID: id, From: r.IntN(12)}
		for range r.IntN(4) {
			source := pick(r, "a(X) if d(X).", "b(X) if d(X), not a(X).", "c(X) if b(X).", "c(X) if d(X), not b(X).", "a(0). d(a).", "d(1) if not b(1).", "b(Y) if d(X, Y), not c(Y).")
			c.Clauses = append(c.Clauses, pick(r, clauses(source), clauses(source), []api.Clause{randomClause(r)})...)
		}
		if r.IntN(4) == 0 {
			c.Clauses = slices.Repeat(clauses("d(1)."), 12+r.IntN(12))
		}
		c.To = pick(r, c.From, c.From+1+r.IntN(12), c.From+r.IntN(12), lastYear, lastYear-r.IntN(3))
		l = append(l, c)
	}
	return l
}

// validCustoms returns customs without errors.
func validCustoms(r *rand.Rand) []api.Custom {
	for {
		l := randomCustoms(r)
		if e, _ := custom.CheckCustoms(l); e == api.OK {
			return l
		}
	}
}

func TestRandomCustoms(t *testing.T) {
	r := newRand(8, 12)
	n := map[api.Errno]int{}
	for range 600 {
		l := randomCustoms(r)
		e, i := custom.CheckCustoms(l)
		if want := slowYears(l); e != want || i != 0 {
			t.Fatalf("P8.8: CheckCustoms of %v is %d, %d, not %d", l, e, i, want)
		}
		n[e]++
	}
	if min(n[api.OK], n[api.ErrLimit], n[api.ErrCycle]) < 20 {
		t.Errorf("P8.8: these customs test little: %v", n)
	}
}

func TestAdd(t *testing.T) {
	l := []api.Custom{rule(3, 0, 9, "p."), rule(7, 0, 9, "q if p.")}
	for _, c := range []struct {
		id   int
		want []int
	}{{1, []int{1, 3, 7}}, {5, []int{3, 5, 7}}, {8, []int{3, 7, 8}}, {greatID, []int{3, 7, greatID}}} {
		got, e := custom.Add(l, rule(c.id, 5, lastYear, example))
		var ids []int
		for _, x := range got {
			ids = append(ids, x.ID)
		}
		i := slices.Index(ids, c.id)
		if e != api.OK || !slices.Equal(ids, c.want) || !sameCustoms(got[i:i+1], []api.Custom{rule(c.id, 5, lastYear, example)}) || !sameCustoms(slices.Delete(got, i, i+1), l) {
			t.Errorf("P8.8: Add of the custom %d is %v, %d", c.id, got, e)
		}
	}
	if got, e := custom.Add(nil, rule(2, 0, 0, "")); e != api.OK || !sameCustoms(got, []api.Custom{rule(2, 0, 0, "")}) {
		t.Errorf("P8.8: Add to nothing is %v, %d", got, e)
	}
	var most []api.Custom
	for i := range 30 {
		most = append(most, rule(2*i+2, 0, 0, ""))
	}
	for _, x := range []struct {
		l    []api.Custom
		c    api.Custom
		want api.Errno
	}{
		{l, rule(7, 0, 9, ""), api.ErrTwice},
		{l, api.Custom{ID: 3, From: -1}, api.ErrTwice}, // the ID comes first
		{l, rule(0, 0, 9, ""), api.ErrArg},
		{l, rule(-4, 0, 9, ""), api.ErrArg},
		{l, rule(greatID+1, 0, 9, ""), api.ErrArg},
		{l, rule(5, 3, 2, ""), api.ErrArg},
		{l, rule(5, 0, 9, "p(X)."), api.ErrUnsafe},
		{l, api.Custom{ID: 5, Clauses: make([]api.Clause, 1)}, api.ErrForm},
		{l, rule(5, 9, 12, "p if not q."), api.ErrCycle},
		{l, rule(5, 9, 12, several(39)), api.ErrLimit},
		{most[:29], rule(1, 0, 0, ""), api.OK},
		{most, rule(1, 0, 0, ""), api.ErrLimit},
		{most, rule(2, 0, 0, ""), api.ErrTwice},
		{[]api.Custom{{}}, rule(0, 0, 0, ""), api.ErrArg},
	} {
		got, e := custom.Add(x.l, x.c)
		wantError(t, "P8.8: Add", x.want, got, e)
	}
	if _, e := custom.Add(l, rule(5, 10, 12, "p if not q.")); e != api.OK {
		t.Errorf("P8.8: Add of a custom of other years is %d", e)
	}
}

func TestInForceAndReach(t *testing.T) {
	l := []api.Custom{rule(1, 10, 20, "a."), rule(2, 15, 30, "b. c."), rule(4, 25, lastYear, "d."), rule(9, 15, 15, "e.")}
	for _, c := range []struct {
		year, lo, hi int
		want         string
	}{
		{0, 0, 9, ""}, {9, 0, 9, ""}, {10, 10, 14, "a."}, {12, 10, 14, "a."}, {14, 10, 14, "a."}, {15, 15, 15, "a. b. c. e."}, {16, 16, 20, "a. b. c."}, {20, 16, 20, "a. b. c."},
		{21, 21, 24, "b. c."}, {24, 21, 24, "b. c."}, {25, 25, 30, "b. c. d."}, {30, 25, 30, "b. c. d."}, {31, 31, lastYear, "d."}, {lastYear, 31, lastYear, "d."},
	} {
		got, e := custom.InForce(l, c.year)
		if e != api.OK || !sameClauses(got, clauses(c.want)) {
			t.Errorf("P8.8: InForce in %d is %v, %d", c.year, got, e)
		}
		reach, e := custom.Reach(l, c.year)
		if e != api.OK || reach != (api.Span{Lo: c.lo, Hi: c.hi}) {
			t.Errorf("P8.8: Reach of %d is %v, %d", c.year, reach, e)
		}
	}
	if reach, e := custom.Reach(nil, 1700); e != api.OK || reach != (api.Span{Lo: 0, Hi: lastYear}) {
		t.Errorf("P8.8: Reach without customs is %v, %d", reach, e)
	}
	// Other customs are in force, even if they have the same clauses, or none.
	l = []api.Custom{rule(1, 0, 9, "a."), rule(2, 10, 19, "a."), rule(3, 15, 30, "")}
	for year, want := range map[int]api.Span{5: {Lo: 0, Hi: 9}, 12: {Lo: 10, Hi: 14}, 15: {Lo: 15, Hi: 19}, 20: {Lo: 20, Hi: 30}, 31: {Lo: 31, Hi: lastYear}} {
		if reach, e := custom.Reach(l, year); e != api.OK || reach != want {
			t.Errorf("P8.8: Reach of %d is %v, %d, not %v", year, reach, e, want)
		}
	}
}

// names returns the IDs of the customs of a year.
func names(l []api.Custom, year int) []int {
	var ids []int
	for _, c := range l {
		if c.From <= year && year <= c.To {
			ids = append(ids, c.ID)
		}
	}
	return ids
}

func TestRandomReach(t *testing.T) {
	r := newRand(8, 13)
	for range 300 {
		l := validCustoms(r)
		for range 5 {
			year := pick(r, r.IntN(30), r.IntN(lastYear+1), lastYear-r.IntN(5))
			lo, hi := year, year
			for lo > 0 && slices.Equal(names(l, lo-1), names(l, year)) {
				lo--
			}
			for hi < lastYear && slices.Equal(names(l, hi+1), names(l, year)) {
				hi++
			}
			reach, e := custom.Reach(l, year)
			if e != api.OK || reach != (api.Span{Lo: lo, Hi: hi}) {
				t.Fatalf("P8.8: Reach of %d in %v is %v, %d, not %d to %d", year, l, reach, e, lo, hi)
			}
			for _, y := range []int{lo, hi, (lo + hi) / 2} {
				got, e := custom.InForce(l, y)
				if e != api.OK || !sameClauses(got, slowForce(l, year)) {
					t.Fatalf("P8.15: InForce of %v in %d is %v, %d, but other than in %d", l, y, got, e, year)
				}
			}
		}
	}
}

// withYear returns the results of the functions with customs and a year.
func withYear(l []api.Custom, base []api.Atom, year int, a api.Atom, id int) map[string][]any {
	return map[string][]any{
		"P8.8: InForce": all(custom.InForce(l, year)),
		"P8.8: Reach":   all(custom.Reach(l, year)),
		"P8.9: Rests":   all(custom.Rests(l, base, year, a)),
		"P8.9: Effect":  all(custom.Effect(l, base, year, id)),
	}
}

func TestErrorsOfCustomsAndYears(t *testing.T) {
	for _, c := range wrongCustoms() {
		for what, results := range withYear(c.l, make([]api.Atom, 101), -1, api.Atom{}, 99) {
			wantError(t, what, c.want, results...)
		}
		got, e := custom.Add(c.l, rule(9, 0, 0, ""))
		wantError(t, "P8.8: Add", c.want, got, e)
	}
	l := []api.Custom{rule(1, 0, lastYear, "p.")}
	for _, year := range []int{-1, lastYear + 1, math.MinInt64, math.MaxInt64} {
		for what, results := range withYear(l, make([]api.Atom, 101), year, api.Atom{}, 99) {
			wantError(t, what, api.ErrArg, results...)
		}
	}
}
