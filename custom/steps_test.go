package custom_test

import (
	"fmt"
	"math"
	"math/rand/v2"
	"slices"
	"testing"

	"boundstone/api"
	"boundstone/custom"
)

func TestDerive(t *testing.T) {
	l, base := clauses(example), atoms(exampleBase)
	steps, e := custom.Derive(l, base)
	if e != api.OK || len(steps) != 16 || !slowSteps(l, base, steps) || custom.CheckSteps(l, base, steps) != api.OK {
		t.Errorf("P8.6: Derive of the example is %v, %d", steps, e)
	}
	steps, e = custom.Derive(nil, nil)
	if e != api.OK || len(steps) > 0 || custom.CheckSteps(nil, nil, steps) != api.OK {
		t.Errorf("P8.6: Derive of nothing is %v, %d", steps, e)
	}
	r := newRand(8, 9)
	longest := 0
	for range 1500 {
		l, base := stratified(r), randomBase(r)
		steps, e := custom.Derive(l, base)
		if e != api.OK || !slowSteps(l, base, steps) {
			t.Fatalf("P8.6: Derive of\n%s and %v is %v, %d", slowText(l), base, steps, e)
		}
		if e := custom.CheckSteps(l, base, steps); e != api.OK {
			t.Fatalf("P8.12: CheckSteps of\n%s and %v for %v is %d", slowText(l), base, steps, e)
		}
		longest = max(longest, len(steps))
	}
	if longest < 10 {
		t.Errorf("P8.6: these clauses test little: %d", longest)
	}
}

// wrongSteps returns steps for the clauses and atoms of wrongStepsOf that do not derive what holds, by what is wrong with them, beside right ones.
func wrongSteps() map[string][]api.Step {
	given := func(a string) api.Step { return api.Step{Atom: pattern(a), Clause: -1} }
	by := func(n int, a string, from ...int) api.Step {
		return api.Step{Atom: pattern(a), Clause: n, From: from}
	}
	// The right steps are 0: e(1, 2), 1: e(2, 3), 2: n(2), 3: r(1, 2), 4: r(2, 3), 5: r(1, 3), 6: u(1), 7: u(3), 8: v
	right := []api.Step{given("e(1, 2)"), given("e(2, 3)"), given("n(2)"), by(0, "r(1, 2)", 0), by(0, "r(2, 3)", 1), by(1, "r(1, 3)", 3, 1), by(2, "u(1)", 3), by(3, "u(3)", 4), by(4, "v")}
	changed := func(i int, s api.Step) []api.Step {
		l := slices.Clone(right)
		l[i] = s
		return l
	}
	return map[string][]api.Step{
		"":                             right,
		"given once more":              append(slices.Clone(right), given("n(2)")),
		"derived once more":            append(slices.Clone(right), by(2, "u(1)", 5)),
		"one is missing":               slices.Delete(slices.Clone(right), 7, 8),
		"the last one is missing":      right[:8],
		"what is given is missing":     append(slices.Clone(right[:2]), by(0, "r(1, 2)", 0), by(0, "r(2, 3)", 1), by(1, "r(1, 3)", 2, 1), by(2, "u(1)", 2), by(2, "u(2)", 3), by(3, "u(3)", 3), by(4, "v")),
		"nothing":                      nil,
		"not given":                    changed(6, given("u(1)")),
		"given from others":            changed(1, by(-1, "e(2, 3)", 0)),
		"derived without atoms":        changed(3, by(0, "r(1, 2)")),
		"too many atoms":               changed(3, by(0, "r(1, 2)", 0, 0)),
		"too few atoms":                changed(5, by(1, "r(1, 3)", 3)),
		"the wrong order of atoms":     changed(5, by(1, "r(1, 3)", 1, 3)),
		"atoms that do not fit":        changed(5, by(1, "r(1, 3)", 4, 1)),
		"another predicate":            changed(5, by(1, "r(1, 3)", 0, 1)),
		"the wrong atom":               changed(3, by(0, "r(1, 2)", 1)),
		"a later one":                  changed(3, by(0, "r(1, 2)", 4)),
		"from itself":                  changed(3, by(0, "r(1, 2)", 3)),
		"an index that is too great":   changed(3, by(0, "r(1, 2)", 99)),
		"an index below 0":             changed(3, by(0, "r(1, 2)", -1)),
		"the least index":              changed(3, by(0, "r(1, 2)", math.MinInt64)),
		"another clause":               changed(3, by(1, "r(1, 2)", 0)),
		"no clause":                    changed(3, by(5, "r(1, 2)", 0)),
		"no clause below 0":            changed(8, by(-2, "v")),
		"the greatest clause":          changed(8, by(math.MaxInt64, "v")),
		"given with a clause":          changed(0, by(0, "e(1, 2)")),
		"against a negation":           append(slices.Clone(right), by(2, "u(2)", 4)),
		"against a comparison":         append(slices.Clone(right), by(3, "u(2)", 3)),
		"against another comparison":   append(slices.Clone(right), by(4, "w")),
		"not ground":                   append(slices.Clone(right), by(4, "r(X, 2)")),
		"not formed":                   append(slices.Clone(right), api.Step{Atom: atom("If!"), Clause: -1}),
		"something that does not hold": append(slices.Clone(right), given("u(9)")),
		"before what it needs":         slices.Concat(right[:2], right[3:4], right[2:3], right[5:6], right[4:5], right[6:]),
	}
}

const wrongStepsOf = "r(X, Y) if e(X, Y). r(X, Z) if r(X, Y), e(Y, Z). u(X) if r(X, Y), not n(X). u(Y) if r(X, Y), 2 < Y. v if 1 <= 1, not w."

func TestWrongSteps(t *testing.T) {
	l, base := clauses(wrongStepsOf), atoms("e(1, 2); e(2, 3); n(2)")
	for what, steps := range wrongSteps() {
		want := api.ErrProof
		if what == "" {
			want = api.OK
		}
		if e := custom.CheckSteps(l, base, steps); e != want || slowSteps(l, base, steps) != (e == api.OK) {
			t.Errorf("P8.6: CheckSteps (%s) is %d, not %d", what, e, want)
		}
	}
	right := wrongSteps()[""]
	// Some of the steps can change their places, and some atoms are derived in two ways.
	other := slices.Concat(right[2:3], right[1:2], right[0:1])
	other = append(other, api.Step{Atom: pattern("v"), Clause: 4, From: []int{}}, api.Step{Atom: pattern("r(2, 3)"), From: []int{1}}, api.Step{Atom: pattern("r(1, 2)"), From: []int{2}},
		api.Step{Atom: pattern("r(1, 3)"), Clause: 1, From: []int{5, 1}}, api.Step{Atom: pattern("u(1)"), Clause: 2, From: []int{6}}, api.Step{Atom: pattern("u(3)"), Clause: 3, From: []int{6}})
	if e := custom.CheckSteps(l, base, other); e != api.OK {
		t.Errorf("P8.6: CheckSteps of other steps is %d", e)
	}
	// What is given can be derived, too.
	if e := custom.CheckSteps(clauses("p. q if p."), atoms("q"), []api.Step{{Atom: pattern("p")}, {Atom: pattern("q"), Clause: 1, From: []int{0}}}); e != api.OK {
		t.Errorf("P8.6: CheckSteps of what is given and derived is %d", e)
	}
	// No atom holds because of itself.
	circle := []api.Step{{Atom: pattern("p"), From: []int{1}}, {Atom: pattern("q"), Clause: 1, From: []int{0}}}
	if e := custom.CheckSteps(clauses("p if q. q if p."), nil, circle); e != api.ErrProof {
		t.Errorf("P8.6: CheckSteps of a circle is %d", e)
	}
	many := slices.Repeat(right, 34)
	wantError(t, "P8.6: CheckSteps", api.ErrLimit, custom.CheckSteps(l, base, many[:301]))
	wantError(t, "P8.6: CheckSteps", api.ErrProof, custom.CheckSteps(l, base, many[:300]))
	wantError(t, "P8.6: CheckSteps", api.ErrArg, custom.CheckSteps(l, []api.Atom{{}}, many))
}

// changeSteps changes something of steps.
func changeSteps(r *rand.Rand, steps []api.Step) []api.Step {
	steps = copiedSteps(steps)
	if len(steps) == 0 {
		return []api.Step{{Atom: randomAtom(r, "abcd"), Clause: r.IntN(3) - 1}}
	}
	i, k := r.IntN(len(steps)), r.IntN(len(steps))
	switch s := &steps[i]; r.IntN(7) {
	case 0:
		s.Atom = randomAtom(r, "abcd")
	case 1:
		s.Clause = r.IntN(6) - 1
	case 2:
		steps[i], steps[k] = steps[k], steps[i]
	case 3:
		steps = slices.Delete(steps, i, i+1)
	case 4:
		steps = append(steps, api.Step{Atom: randomAtom(r, "abcd"), Clause: r.IntN(4), From: []int{i}})
	default:
		if n := len(s.From); n > 0 {
			s.From[r.IntN(n)] = k
		} else {
			s.From = []int{k}
		}
	}
	return steps
}

func TestRandomSteps(t *testing.T) {
	r := newRand(8, 10)
	n := map[bool]int{}
	for range 1500 {
		l, base := stratified(r), randomBase(r)
		right, _ := custom.Derive(l, base)
		for range 5 {
			steps := changeSteps(r, right)
			e := custom.CheckSteps(l, base, steps)
			is := slowSteps(l, base, steps)
			if is != (e == api.OK) || !is && e != api.ErrProof {
				t.Fatalf("P8.6: CheckSteps of %v by\n%s and %v is %d", steps, slowText(l), base, e)
			}
			n[is]++
			if is && !sameAtoms(slowModel(l, base), sorted(steps)) {
				t.Fatalf("P8.12: CheckSteps accepts %v by\n%s and %v", steps, slowText(l), base)
			}
		}
	}
	if min(n[true], n[false]) < 300 {
		t.Errorf("P8.6: these steps test little: %v", n)
	}
}

// sorted returns the atoms of steps, in order.
func sorted(steps []api.Step) []api.Atom {
	var l []api.Atom
	for _, s := range steps {
		l = append(l, s.Atom)
	}
	slices.SortFunc(l, slowCompare)
	return l
}

func TestWhy(t *testing.T) {
	right := wrongSteps()[""]
	twice := append(slices.Clone(right), api.Step{Atom: pattern("v"), Clause: 7, From: []int{5}}, api.Step{Atom: pattern("w"), From: []int{9, 9, 2}})
	for _, c := range []struct {
		steps []api.Step
		a     api.Atom
		want  string
		e     api.Errno
	}{
		{right, pattern("r(1, 3)"), "[0 1 3 5]", api.OK},
		{right, pattern("u(1)"), "[0 3 6]", api.OK},
		{right, pattern("u(3)"), "[1 4 7]", api.OK},
		{right, pattern("e(2, 3)"), "[1]", api.OK},
		{right, pattern("v"), "[8]", api.OK},
		{twice, pattern("v"), "[8]", api.OK}, // the first one of two
		{twice, pattern("w"), "[0 1 2 3 5 9 10]", api.OK},
		{right, pattern("u(2)"), "[]", api.ErrNone},
		{right, pattern("v(1)"), "[]", api.ErrNone},
		{right, pattern("u(X)"), "[]", api.ErrNone},
		{nil, pattern("v"), "[]", api.ErrNone},
		{[]api.Step{{Atom: atom("If!", variable("?")), Clause: -7}}, atom("If!", variable("?")), "[0]", api.OK}, // nothing else is looked at
		{[]api.Step{{Atom: atom("p(1)")}, {Atom: atom("p", num(1)), From: []int{0}}}, atom("p", num(1)), "[0 1]", api.OK},
		{[]api.Step{{From: []int{0}}}, api.Atom{}, "[]", api.ErrProof},
		{[]api.Step{{}, {From: []int{-1}}}, api.Atom{}, "[]", api.ErrProof},
		{[]api.Step{{}, {From: []int{0, 0, 2}}, {}}, api.Atom{}, "[]", api.ErrProof},
		{[]api.Step{{}, {From: []int{math.MinInt64, math.MaxInt64}}}, pattern("p"), "[]", api.ErrProof},
		{make([]api.Step, 300), api.Atom{}, "[0]", api.OK},
		{make([]api.Step, 300), pattern("p"), "[]", api.ErrNone},
		{make([]api.Step, 301), api.Atom{}, "[]", api.ErrLimit},
		{slices.Repeat([]api.Step{{From: []int{-1}}}, 301), pattern("p"), "[]", api.ErrLimit},
	} {
		l, e := custom.Why(c.steps, c.a)
		if e != c.e || fmt.Sprint(l) != c.want {
			t.Errorf("P8.7: Why of %v is %v, %d, not %s, %d", c.a, l, e, c.want, c.e)
		}
	}
}

// restsOn reports whether a step is another one, or is derived from it.
func restsOn(steps []api.Step, i, other int) bool {
	return i == other || slices.ContainsFunc(steps[i].From, func(n int) bool { return restsOn(steps, n, other) })
}

func TestRandomWhy(t *testing.T) {
	r := newRand(8, 11)
	for range 2000 {
		var steps []api.Step
		for i := range r.IntN(9) {
			s := api.Step{Atom: randomAtom(r, "ab"), Clause: r.IntN(5) - 1}
			for range min(i, r.IntN(3)) {
				s.From = append(s.From, r.IntN(i))
			}
			steps = append(steps, s)
		}
		a := randomAtom(r, "ab")
		first := slices.IndexFunc(steps, func(s api.Step) bool { return sameAtom(s.Atom, a) })
		l, e := custom.Why(steps, a)
		if first == -1 {
			wantError(t, "P8.7: Why", api.ErrNone, l, e)
			continue
		}
		var want []int
		for i := range steps {
			if restsOn(steps, first, i) {
				want = append(want, i)
			}
		}
		if e != api.OK || !slices.Equal(l, want) {
			t.Fatalf("P8.7: Why of %v in %v is %v, %d, not %v", a, steps, l, e, want)
		}
	}
}
