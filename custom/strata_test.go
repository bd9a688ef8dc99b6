package custom_test

import (
	"fmt"
	"slices"
	"testing"

	"boundstone/api"
	"boundstone/custom"
)

func TestStrata(t *testing.T) {
	for _, c := range []struct{ source, want string }{
		{"", "[]"},
		{"p.", "[{p 0 0}]"},
		{example, "[{bound 1 2} {lost 1 1} {near 2 0} {next 2 0} {seen 1 0} {stone 2 0}]"},
		{"p if not p(1).", "[{p 0 1} {p 1 0}]"}, // p/0 and p/1 are different predicates
		{"p if q. q if p. p if r.", "[{p 0 0} {q 0 0} {r 0 0}]"},
		{"p if q. q if p, not r.", "[{p 0 1} {q 0 1} {r 0 0}]"},
		{"b if not a. c if not b. d if c, not a. e if d, b.", "[{a 0 0} {b 0 1} {c 0 2} {d 0 2} {e 0 2}]"},
		{"e if not d. d if not c. c if not b. b if not a.", "[{a 0 0} {b 0 1} {c 0 2} {d 0 3} {e 0 4}]"},
		{"p if 1 = 2, a != b.", "[{p 0 0}]"}, // terms are no predicates
	} {
		l, e := custom.Strata(clauses(c.source))
		if e != api.OK || fmt.Sprint(l) != c.want {
			t.Errorf("P8.3: Strata of %q is %v, %d, not %s", c.source, l, e, c.want)
		}
	}
	var chain []api.Clause // 40 levels above the lowest one, the highest first
	for i := range 40 {
		chain = append(chain, clause(atom(fmt.Sprintf("p%02d", 40-i)), not(atom(fmt.Sprintf("p%02d", 39-i)))))
	}
	l, e := custom.Strata(chain)
	if e != api.OK || len(l) != 41 {
		t.Fatalf("P8.3: Strata of a chain is %v, %d", l, e)
	}
	for i, s := range l {
		if s.Level != i {
			t.Errorf("P8.3: in a chain the level of %s is %d", s.Pred, s.Level)
		}
	}
	for _, source := range []string{"p if not q. q if p.", "p if not p.", "p if q. q if r. r if not p.", "p(X) if q(X), not p(1).", "a. b if not a. c if b, not b. d if not d.", "p if q, not q. q if p."} {
		wantError(t, "P8.3: Strata of "+source, api.ErrCycle, all(custom.Strata(clauses(source)))...)
		wantError(t, "P8.3: Relevant of "+source, api.ErrCycle, all(custom.Relevant(clauses(source), "z", 0))...)
	}
	chain[39].Body = []api.Literal{not(atom("p40"))}
	wantError(t, "P8.3: Strata of a circle", api.ErrCycle, all(custom.Strata(chain))...)
}

func TestRelevant(t *testing.T) {
	for _, c := range []struct {
		source, pred string
		args         int
		want         string
	}{
		{example, "bound", 1, "[0 1]"},
		{example, "near", 2, "[2 3]"},
		{example, "lost", 1, "[0]"},
		{example, "seen", 1, "[]"},
		{example, "near", 1, "[]"},
		{example, "", -1, "[]"},
		{"", "p", 0, "[]"},
		{"p if q. r. q if not s. s if t. s(1) if r. t if 1 = 1.", "p", 0, "[0 2 3 5]"},
		{"p if q. q if r. r if p. s if p. p.", "r", 0, "[0 1 2 4]"},
	} {
		l, e := custom.Relevant(clauses(c.source), c.pred, c.args)
		if e != api.OK || fmt.Sprint(l) != c.want {
			t.Errorf("P8.3: Relevant of %q, %s/%d, is %v, %d, not %s", c.source, c.pred, c.args, l, e, c.want)
		}
	}
}

func TestRandomStrata(t *testing.T) {
	r := newRand(8, 5)
	n := map[bool]int{}
	highest := 0
	for range 4000 {
		var l []api.Clause
		for range r.IntN(7) {
			l = append(l, randomClause(r))
		}
		got, e := custom.Strata(l)
		is := slowStratified(l)
		n[is]++
		if !is {
			wantError(t, fmt.Sprint("P8.3: Strata of ", l), api.ErrCycle, got, e)
			continue
		}
		var want []api.Stratum
		for _, p := range predicates(l) {
			want = append(want, api.Stratum{Pred: p.name, Args: p.args, Level: slowLevel(l, p)})
			highest = max(highest, slowLevel(l, p))
		}
		if e != api.OK || !slices.Equal(got, want) {
			t.Fatalf("P8.3: Strata of %v is %v, %d, not %v", l, got, e, want)
		}
		for _, p := range predicates(l) {
			var want []int
			for i, c := range l {
				if h := predicateOf(c.Head); h == p || slices.Contains(dependsOn(l, p), h) {
					want = append(want, i)
				}
			}
			if got, e := custom.Relevant(l, p.name, p.args); e != api.OK || !slices.Equal(got, want) {
				t.Fatalf("P8.3: Relevant of %v, %v, is %v, %d, not %v", l, p, got, e, want)
			}
		}
	}
	if min(n[true], n[false]) < 500 || highest < 3 {
		t.Errorf("P8.3: these clauses test little: %v, %d", n, highest)
	}
}

// withClauses returns the results of all functions with clauses, and perhaps given atoms.
func withClauses(l []api.Clause, base []api.Atom) map[string][]any {
	return map[string][]any{
		"P8.5: Model":      all(custom.Model(l, base)),
		"P8.5: Holds":      all(custom.Holds(l, base, api.Atom{})),
		"P8.5: Ask":        all(custom.Ask(l, base, api.Atom{})),
		"P8.6: Derive":     all(custom.Derive(l, base)),
		"P8.6: CheckSteps": all(custom.CheckSteps(l, base, make([]api.Step, 301))),
	}
}

func TestCheckComesFirst(t *testing.T) {
	wrong := wrongClauses()
	wrong[api.ErrForm] = wrong[api.ErrForm][:20]
	for want, l := range wrong {
		for _, c := range l {
			list := append(clauses("p if not p."), c)
			for what, results := range withClauses(list, make([]api.Atom, 101)) {
				wantError(t, what, want, results...)
			}
			wantError(t, "P8.3: Strata", want, all(custom.Strata(list))...)
			wantError(t, "P8.3: Relevant", want, all(custom.Relevant(list, "p", 0))...)
		}
	}
	many := slices.Repeat(clauses("p if not p."), 41)
	for what, results := range withClauses(many, nil) {
		wantError(t, what, api.ErrLimit, results...)
	}
	wantError(t, "P8.3: Strata", api.ErrLimit, all(custom.Strata(many))...)
	wantError(t, "P8.3: Relevant", api.ErrLimit, all(custom.Relevant(many, "p", 0))...)
}
