package custom_test

import (
	"fmt"
	"math/rand/v2"
	"reflect"
	"slices"
	"strings"
	"testing"

	"boundstone/api"
	"boundstone/custom"
)

const (
	greatest = 1000000000 // the greatest absolute value of a number
	greatID  = 1 << 40
	lastYear = 4000
)

func num(n int) api.Term { return api.Term{Kind: api.TeNumber, N: n} }

func name(s string) api.Term { return api.Term{Kind: api.TeName, S: s} }

func variable(s string) api.Term { return api.Term{Kind: api.TeVar, S: s} }

func atom(pred string, args ...api.Term) api.Atom { return api.Atom{Pred: pred, Args: args} }

func holds(a api.Atom) api.Literal { return api.Literal{Kind: api.LiAtom, Atom: a} }

func not(a api.Atom) api.Literal { return api.Literal{Kind: api.LiNot, Atom: a} }

func compared(kind int, a, b api.Term) api.Literal { return api.Literal{Kind: kind, A: a, B: b} }

func clause(head api.Atom, body ...api.Literal) api.Clause { return api.Clause{Head: head, Body: body} }

// clauses returns what a source is, which has no errors.
func clauses(source string) []api.Clause {
	l, e, i := custom.Parse(source)
	if e != api.OK {
		panic(fmt.Sprint(source, ": ", e, " ", i))
	}
	return l
}

// pattern returns the atom that a source is, which has no errors.
func pattern(source string) api.Atom {
	a, e, i := custom.ParseAtom(source)
	if e != api.OK {
		panic(fmt.Sprint(source, ": ", e, " ", i))
	}
	return a
}

// atoms returns the atoms that stand in a source with a semicolon behind each.
func atoms(source string) []api.Atom {
	var l []api.Atom
	for _, s := range strings.Split(source, ";") {
		if strings.TrimSpace(s) != "" {
			l = append(l, pattern(s))
		}
	}
	return l
}

// counted returns the atoms q(0), q(1) and so on.
func counted(n int) []api.Atom {
	var l []api.Atom
	for i := range n {
		l = append(l, atom("q", num(i)))
	}
	return l
}

// customs of the chapter's examples, and what is given there.
const example = `
lost(S) if stone(S, N), not seen(S), N < 3.
bound(S) if stone(S, N), not lost(S).
near(X, Y) if next(X, Y).
near(X, Z) if near(X, Y), next(Y, Z), X != Z.
`

const exampleBase = "stone(1, 2); stone(2, 5); stone(3, 0); seen(3); next(1, 2); next(2, 3); next(3, 1)"

func show(a api.Atom) string {
	if len(a.Args) == 0 {
		return a.Pred
	}
	return a.Pred + fmt.Sprint(a.Args)
}

func sameAtom(a, b api.Atom) bool { return a.Pred == b.Pred && slices.Equal(a.Args, b.Args) }

func sameAtoms(a, b []api.Atom) bool { return slices.EqualFunc(a, b, sameAtom) }

func hasAtom(l []api.Atom, a api.Atom) bool {
	return slices.ContainsFunc(l, func(b api.Atom) bool { return sameAtom(a, b) })
}

func sameLiteral(a, b api.Literal) bool {
	return a.Kind == b.Kind && sameAtom(a.Atom, b.Atom) && a.A == b.A && a.B == b.B
}

func sameClauses(a, b []api.Clause) bool {
	return slices.EqualFunc(a, b, func(c, d api.Clause) bool {
		return sameAtom(c.Head, d.Head) && slices.EqualFunc(c.Body, d.Body, sameLiteral)
	})
}

func sameCustoms(a, b []api.Custom) bool {
	return slices.EqualFunc(a, b, func(c, d api.Custom) bool {
		return c.ID == d.ID && c.From == d.From && c.To == d.To && sameClauses(c.Clauses, d.Clauses)
	})
}

func copiedAtoms(l []api.Atom) []api.Atom {
	var m []api.Atom
	for _, a := range l {
		m = append(m, atom(a.Pred, slices.Clone(a.Args)...))
	}
	return m
}

func copiedClauses(l []api.Clause) []api.Clause {
	var m []api.Clause
	for _, c := range l {
		d := api.Clause{Head: copiedAtoms([]api.Atom{c.Head})[0]}
		for _, b := range c.Body {
			b.Atom = copiedAtoms([]api.Atom{b.Atom})[0]
			d.Body = append(d.Body, b)
		}
		m = append(m, d)
	}
	return m
}

func copiedCustoms(l []api.Custom) []api.Custom {
	m := slices.Clone(l)
	for i, c := range m {
		m[i].Clauses = copiedClauses(c.Clauses)
	}
	return m
}

func copiedSteps(l []api.Step) []api.Step {
	m := slices.Clone(l)
	for i, s := range m {
		m[i].Atom, m[i].From = copiedAtoms([]api.Atom{s.Atom})[0], slices.Clone(s.From)
	}
	return m
}

// isNothing reports whether a result is a zero value, or a list of nothing.
func isNothing(x any) bool {
	v := reflect.ValueOf(x)
	return !v.IsValid() || v.IsZero() || v.Kind() == reflect.Slice && v.Len() == 0
}

// all returns the results of a call as a list.
func all(results ...any) []any { return results }

// wantError checks the error of a call, whose results come first, and that there is nothing beside an error.
func wantError(t *testing.T, what string, want api.Errno, results ...any) {
	t.Helper()
	last := len(results) - 1
	if results[last] != want {
		t.Errorf("%s: the error is %v, not %d", what, results[last], want)
	}
	for _, x := range results[:last] {
		if want != api.OK && !isNothing(x) {
			t.Errorf("R4: %s: together with the error %v there is %v", what, results[last], x)
		}
	}
}

func newRand(a, b uint64) *rand.Rand { return rand.New(rand.NewPCG(a, b)) }

func pick[T any](r *rand.Rand, l ...T) T { return l[r.IntN(len(l))] }

// randomTerm returns a number, a name, or, if there are any, one of some variables.
func randomTerm(r *rand.Rand, variables ...string) api.Term {
	if len(variables) > 0 && r.IntN(5) > 0 {
		return variable(pick(r, variables...))
	}
	return pick(r, num(0), num(1), num(-2), name("a"), name("b"))
}

// randomAtom returns an atom of one of a few predicates; d stands in no heads.
func randomAtom(r *rand.Rand, preds string, variables ...string) api.Atom {
	a := atom(string(preds[r.IntN(len(preds))]))
	for range pick(r, 0, 1, 1, 1, 2) {
		a.Args = append(a.Args, randomTerm(r, variables...))
	}
	return a
}

// randomClause returns a safe clause with at most three variables.
func randomClause(r *rand.Rand) api.Clause {
	variables := []string{"X", "Y", "Z"}[:1+r.IntN(3)]
	c := clause(randomAtom(r, "abc", variables...))
	for range r.IntN(5) {
		switch r.IntN(5) {
		case 0:
			c.Body = append(c.Body, not(randomAtom(r, "abcd", variables...)))
		case 1:
			kind := api.LiEqual + r.IntN(4)
			c.Body = append(c.Body, compared(kind, randomTerm(r, variables...), randomTerm(r, variables...)))
		default:
			c.Body = append(c.Body, holds(randomAtom(r, "abcdd", variables...)))
		}
	}
	if !slowSafe(c) {
		return randomClause(r)
	}
	return c
}

// randomClauses returns clauses that are safe, and are mostly stratified.
func randomClauses(r *rand.Rand) []api.Clause {
	var l []api.Clause
	for range 1 + r.IntN(6) {
		c := randomClause(r)
		if slowStratified(append(slices.Clone(l), c)) || r.IntN(30) == 0 {
			l = append(l, c)
		}
	}
	return l
}

// stratified returns random clauses that are stratified.
func stratified(r *rand.Rand) []api.Clause {
	for {
		if l := randomClauses(r); slowStratified(l) {
			return l
		}
	}
}

func randomBase(r *rand.Rand) []api.Atom {
	var l []api.Atom
	for range r.IntN(8) {
		l = append(l, randomAtom(r, "abcdd"))
	}
	return l
}
