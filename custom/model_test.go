package custom_test

import (
	"fmt"
	"slices"
	"testing"

	"boundstone/api"
	"boundstone/custom"
)

func TestModel(t *testing.T) {
	for _, c := range []struct{ source, base, want string }{
		{"", "", ""},
		{"", "q(1); p; q(0); p; q(1)", "p; q(0); q(1)"},
		{"p. q if p, not r. s if not q.", "", "p; q"},
		{example, exampleBase, "bound(2); bound(3); lost(1); near(1, 2); near(1, 3); near(2, 1); near(2, 3); near(3, 1); near(3, 2); next(1, 2); next(2, 3); next(3, 1); seen(3); stone(1, 2); stone(2, 5); stone(3, 0)"},
		{"p(X) if q(X), X < 2. r(X) if q(X), X <= 2.", "q(1); q(2); q(3); q(a)", "p(1); q(1); q(2); q(3); q(a); r(1); r(2)"},
		{"p(X, Y) if q(X), q(Y), X != Y.", "q(1); q(a)", "p(1, a); p(a, 1); q(1); q(a)"},
		{"p(X, Y) if q(X), q(Y), X = Y.", "q(1); q(a)", "p(1, 1); p(a, a); q(1); q(a)"},
		{"p if a < b. q if a = a. r if 1 != a. s if b <= b. t if 2 <= 2. u if 2 < 2. v if a < 3. w if 3 <= a. x if 1 = 2. y if a != a.", "", "q; r; t"},
		{"p(X) if q(X, X).", "q(1, 2); q(3, 3); q", "p(3); q; q(1, 2); q(3, 3)"},
		{"p(a, 7) if q. p(X, X) if q(X).", "q; q(-1)", "p(-1, -1); p(a, 7); q; q(-1)"},
		{"p if not q. q if r.", "q", "q"},                               // what is given holds, whatever the clauses say
		{"p if q. r if not p.", "p", "p"},                               // also if the predicate stands in heads
		{"a if b. b if a.", "", ""},                                     // nothing holds because of itself
		{"a if b. b if a. c if not a.", "b", "a; b"},                    // a holds before c is looked at
		{"e if not d. d if not c. c if not b. b if not a.", "", "b; d"}, // level by level, whatever the order
		{"p(X) if q(X), not q(1), not r(X).", "q(2); q(3); r(3)", "p(2); q(2); q(3); r(3)"},
	} {
		got, e := custom.Model(clauses(c.source), atoms(c.base))
		if want := atoms(c.want); e != api.OK || !sameAtoms(got, want) {
			t.Errorf("P8.5: Model of %q and %s is %v, %d, not %s", c.source, c.base, got, e, c.want)
		}
	}
}

func TestHoldsAndAsk(t *testing.T) {
	l, base := clauses(example), atoms(exampleBase)
	for _, c := range []struct {
		a    string
		want bool
	}{{"lost(1)", true}, {"lost(2)", false}, {"bound(3)", true}, {"near(1, 3)", true}, {"near(1, 1)", false}, {"seen(3)", true}, {"seen", false}, {"other(1)", false}, {"bound(a)", false}} {
		if is, e := custom.Holds(l, base, pattern(c.a)); e != api.OK || is != c.want {
			t.Errorf("P8.5: Holds of %s is %v, %d", c.a, is, e)
		}
	}
	for _, c := range []struct{ pattern, want string }{
		{"lost(S)", "lost(1)"}, {"bound(S)", "bound(2); bound(3)"}, {"near(1, X)", "near(1, 2); near(1, 3)"}, // the examples
		{"near(X, X)", ""}, {"near(X, 1)", "near(2, 1); near(3, 1)"}, {"stone(3, 0)", "stone(3, 0)"}, {"stone(X)", ""}, {"other(X)", ""}, {"near(3, Y)", "near(3, 1); near(3, 2)"},
	} {
		if got, e := custom.Ask(l, base, pattern(c.pattern)); e != api.OK || !sameAtoms(got, atoms(c.want)) {
			t.Errorf("P8.5: Ask of %s is %v, %d, not %s", c.pattern, got, e, c.want)
		}
	}
	for _, a := range wrongAtoms() {
		wantError(t, fmt.Sprint("P8.5: Holds of ", a), api.ErrArg, all(custom.Holds(l, base, a))...)
		wantError(t, fmt.Sprint("P8.5: Ask of ", a), api.ErrArg, all(custom.Ask(l, base, a))...)
	}
	wantError(t, "P8.5: Holds of lost(S)", api.ErrArg, all(custom.Holds(l, base, pattern("lost(S)")))...)
}

func TestRandomModels(t *testing.T) {
	r := newRand(8, 8)
	levels, most, asked := map[int]int{}, 0, 0
	for range 1500 {
		l, base := stratified(r), append(randomBase(r), randomBase(r)...)
		want := slowModel(l, base)
		got, e := custom.Model(l, base)
		if e != api.OK || !sameAtoms(got, want) {
			t.Fatalf("P8.5: Model of\n%s and %v is %v, %d, not %v", slowText(l), base, got, e, want)
		}
		strata, _ := custom.Strata(l)
		high := 0
		for _, s := range strata {
			high = max(high, s.Level)
		}
		levels[high]++
		most = max(most, len(less(got, base)))
		for range 5 {
			a, p := randomAtom(r, "abcd"), randomAtom(r, "abcd", "X", "Y")
			if is, e := custom.Holds(l, base, a); e != api.OK || is != hasAtom(want, a) {
				t.Fatalf("P8.5: Holds of %v, by\n%s and %v, is %v, %d", a, slowText(l), base, is, e)
			}
			var there []api.Atom
			for _, b := range want {
				if slices.ContainsFunc(instances(clause(p), b.Args), func(c api.Clause) bool { return sameAtom(c.Head, b) }) {
					there = append(there, b)
				}
			}
			got, e := custom.Ask(l, base, p)
			if e != api.OK || !sameAtoms(got, there) {
				t.Fatalf("P8.5: Ask of %v, by\n%s and %v, is %v, %d, not %v", p, slowText(l), base, got, e, there)
			}
			asked += min(1, len(got))
		}
	}
	if min(levels[0], levels[1], levels[2]) < 50 || most < 8 || asked < 500 {
		t.Errorf("P8.5: these clauses test little: %v, %d, %d", levels, most, asked)
	}
}

// wrongBases returns lists of given atoms that are not valid, with the errors.
func wrongBases() map[api.Errno][][]api.Atom {
	l := [][]api.Atom{{atom("p", variable("X"))}, {atom("p"), atom("p", num(1), variable("X"))}}
	for _, a := range wrongAtoms() {
		l = append(l, []api.Atom{a}, append(counted(3), a))
	}
	return map[api.Errno][][]api.Atom{
		api.ErrArg:   l,
		api.ErrLimit: {counted(101), slices.Repeat(counted(1), 101), make([]api.Atom, 101)},
	}
}

func TestErrorsOfBases(t *testing.T) {
	for want, l := range wrongBases() {
		for _, base := range l {
			for what, results := range withClauses(clauses(example), base) {
				wantError(t, fmt.Sprint(what, " with ", base), want, results...)
			}
			for what, results := range withClauses(clauses("p if not p."), base) {
				wantError(t, what+" without strata", api.ErrCycle, results...)
			}
		}
	}
	if l, e := custom.Model(nil, slices.Repeat(counted(50), 2)); e != api.OK || len(l) != 50 {
		t.Errorf("P8.5: Model of 100 given atoms is %v, %d", l, e)
	}
}

func TestLargestModels(t *testing.T) {
	base := counted(100)
	two := "p(X) if q(X). r(X) if q(X)."
	for _, c := range []struct {
		source string
		n      int
		want   api.Errno
	}{
		{two, 300, api.OK},
		{two + "s.", 0, api.ErrLimit},
		{two + "s if not t.", 0, api.ErrLimit},
		{two + "t(X) if q(X), 99 <= X.", 0, api.ErrLimit},
		{two + "p(0). r(99) if r(0). r(5) if 1 = 1.", 300, api.OK}, // what holds twice counts once
		{"p(X, Y) if q(X), q(Y).", 0, api.ErrLimit},
		{"p(X, Y) if q(X), q(Y), X < 2.", 300, api.OK},
		{"p(X, Y) if q(X), q(Y), X < 2. p(2, 2).", 0, api.ErrLimit},
	} {
		l, e := custom.Model(clauses(c.source), base)
		wantError(t, "P8.5: Model of "+c.source, c.want, l, e)
		if e == api.OK && len(l) != c.n {
			t.Errorf("P8.5: Model of %s has %d atoms", c.source, len(l))
		}
		steps, e := custom.Derive(clauses(c.source), base)
		wantError(t, "P8.6: Derive of "+c.source, c.want, steps, e)
		if c.want == api.OK && (len(steps) != c.n || custom.CheckSteps(clauses(c.source), base, steps) != api.OK) {
			t.Errorf("P8.6: Derive of %s has %d steps", c.source, len(steps))
		}
		if c.want == api.OK {
			continue
		}
		// The size of the model is looked at before the atom.
		wantError(t, "P8.5: Holds", c.want, all(custom.Holds(clauses(c.source), base, api.Atom{}))...)
		wantError(t, "P8.5: Ask", c.want, all(custom.Ask(clauses(c.source), base, api.Atom{}))...)
		if e := custom.CheckSteps(clauses(c.source), base, nil); e != api.ErrProof {
			t.Errorf("P8.6: CheckSteps for a model that is too large is %d", e)
		}
	}
}

// wide returns sources whose clauses have very many instances, with the number of atoms of the model beside what is given (-1: too many).
func wide() map[string]int {
	return map[string]int{
		"p if q(A), q(B), q(C), q(D), q(E).":                                                         1,
		"p(A) if q(A), q(B), q(C), q(D), q(E).":                                                      100,
		"p(E) if q(A), q(B), q(C), q(D), q(E).":                                                      100,
		"p(D) if q(A), q(B), q(C), q(D), not r(A, B, C).":                                            100,
		"p if q(A), q(B), q(C), q(D), r(A, B, C).":                                                   0,
		"p if q(A), q(B), q(C), q(D), A < A.":                                                        0,
		"p(B) if q(A), q(B), q(C), A < B, B < C.":                                                    98,
		"p if q(A), q(B), q(C), A < B, B < A.":                                                       0,
		"p if q(D), q(A), q(B), q(C), not q(C).":                                                     0,
		"p(A, B, C) if q(A), q(B), q(C), A < B, B < C.":                                              -1,
		"p(A, B, C) if q(A), q(B), q(C), q(D), q(E).":                                                -1,
		"p(X) if q(X), X < 50. s(X) if p(X). t if p(A), s(B), q(C), p(D), s(E).":                     101,
		"s(X) if q(X). t if q(A), q(B), s(C), q(D), not r(A, B, D).":                                 101,
		"s(X, X) if q(X). t(A) if s(A, B), s(B, C), s(C, D), s(D, E), s(E, A).":                      200,
		"s(X, X) if q(X). t(A) if s(A, B), s(C, D), s(E, F), s(G, H), s(A, I).":                      200,
		"s(X, X) if q(X). t if s(A, B), s(C, D), s(E, F), A != B, C != D.":                           100,
		"s(X, 0) if q(X). t if s(A, B), s(C, D), s(E, F), s(G, H), not r(A, C, E).":                  101,
		"s(X, 0) if q(X). t(G) if s(A, B), s(C, B), s(E, B), s(G, B), not r(A, C, E).":               200,
		"s(0, X) if q(X). t(B) if s(A, B), s(A, D), s(A, F), s(A, H), not r(D, F, H).":               200,
		"s(0, X) if q(X). t if s(A, B), s(A, D), s(A, F), B < D, D < F.":                             101,
		"s(0, X) if q(X). t if s(A, B), s(A, D), s(A, F), s(B, D), s(D, F).":                         101,
		"s(0, X) if q(X). t(B, D) if s(A, B), s(A, D), s(B, D), s(D, B), s(A, A).":                   101,
		"s(X, 1) if q(X), X < 50. s(0, X) if q(X). t if s(A, B), s(C, A), s(B, D), s(D, C), A != 0.": 150,
	}
}

func TestWideClauses(t *testing.T) {
	base := counted(100)
	for source, n := range wide() {
		l := clauses(source)
		got, e := custom.Model(l, base)
		if n == -1 {
			wantError(t, "P8.5: Model of "+source, api.ErrLimit, got, e)
			continue
		}
		if e != api.OK || len(got) != 100+n {
			t.Errorf("P8.5: Model of %s has %d atoms, not 100 and %d: %d", source, len(got), n, e)
		}
		steps, _ := custom.Derive(l, base)
		if e := custom.CheckSteps(l, base, steps); e != api.OK {
			t.Errorf("P8.12: CheckSteps of %s is %d", source, e)
		}
	}
}

func TestLongDerivations(t *testing.T) {
	var base []api.Atom
	for i := range 99 {
		base = append(base, atom("next", num(98-i), num(99-i)))
	}
	l := clauses("at(Y) if at(X), next(X, Y). at(0). past(X) if at(X), not at(100), X != 50.")
	got, e := custom.Model(l, base)
	if e != api.OK || len(got) != 99+100+99 {
		t.Fatalf("P8.5: Model of a chain has %d atoms, %d", len(got), e)
	}
	steps, _ := custom.Derive(l, base)
	indices, e := custom.Why(steps, atom("at", num(99)))
	if e != api.OK || len(indices) != 99+100 {
		t.Errorf("P8.7: the last one of a chain rests on %d steps, %d", len(indices), e)
	}
	// All pairs of 24 things in a row: next and near have 23 and 276 atoms.
	base = base[76:]
	for _, source := range []string{"near(X, Z) if near(X, Y), next(Y, Z).", "near(X, Z) if near(X, Y), near(Y, Z).", "near(X, Z) if next(X, Y), near(Y, Z)."} {
		got, e = custom.Model(clauses("near(X, Y) if next(X, Y)."+source), base)
		if e != api.OK || len(got) != 23+276 {
			t.Errorf("P8.5: Model of %s has %d atoms, %d", source, len(got), e)
		}
	}
}
