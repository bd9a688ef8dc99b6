package custom_test

import (
	"math"
	"slices"
	"strings"
	"testing"

	"boundstone/api"
	"boundstone/custom"
)

// wrongTerms returns terms that are not formed.
func wrongTerms() []api.Term {
	l := []api.Term{
		{}, {Kind: api.TeNumber, S: "a"}, {Kind: api.TeNumber, N: 1, S: "X"}, {Kind: api.TeName, N: 1, S: "a"}, {Kind: api.TeVar, N: -1, S: "X"},
		{Kind: 4, S: "a"}, {Kind: 4, N: 1}, {Kind: 4}, {Kind: -1, S: "X"}, {N: 1}, {S: "a"}, {Kind: math.MinInt64, N: 3},
		num(greatest + 1), num(-greatest - 1), num(math.MaxInt64), num(math.MinInt64),
		name("A"), name("Xyz"), variable("a"), variable("xY"), name("1a"),
	}
	for _, s := range []string{"", "if", "not", "a b", "a_b", "_a", "a-", "1", "é", "aé", "a\x00", "a.", "(", " a", "a ", strings.Repeat("a", 25)} {
		l = append(l, name(s), variable(s))
	}
	return append(l, variable("A b"), variable("A_"), variable("É"), variable("Aé"), variable("A"+strings.Repeat("a", 24)))
}

// wrongAtoms returns atoms that are not formed.
func wrongAtoms() []api.Atom {
	l := []api.Atom{{}, atom("", num(1)), atom("p", num(1), num(2), num(3), num(4))}
	for _, t := range wrongTerms() {
		l = append(l, atom("p", t), atom("p", num(1), t), atom("p", variable("X"), name("a"), t))
		if t.Kind == api.TeName && t.N == 0 {
			l = append(l, atom(t.S), atom(t.S, num(1)))
		}
	}
	return l
}

// wrongLiterals returns literals that are not formed.
func wrongLiterals() []api.Literal {
	p, one, two := atom("p", num(1)), num(1), num(2)
	l := []api.Literal{
		{}, {Atom: p}, {Kind: 7, Atom: p}, {Kind: 7, A: one, B: two}, {Kind: -1, Atom: p}, {Kind: math.MaxInt64, A: one, B: two}, {A: one, B: two},
		{Kind: api.LiAtom}, {Kind: api.LiNot}, {Kind: api.LiAtom, A: one, B: two}, {Kind: api.LiNot, A: one, B: two},
		{Kind: api.LiAtom, Atom: p, A: one}, {Kind: api.LiAtom, Atom: p, B: one}, {Kind: api.LiNot, Atom: p, A: one}, {Kind: api.LiNot, Atom: p, B: one},
		{Kind: api.LiAtom, Atom: p, A: api.Term{N: 1}}, {Kind: api.LiNot, Atom: p, B: api.Term{S: "a"}},
	}
	for kind := api.LiEqual; kind <= api.LiMost; kind++ {
		l = append(l, api.Literal{Kind: kind}, api.Literal{Kind: kind, A: one}, api.Literal{Kind: kind, B: one}, api.Literal{Kind: kind, Atom: p},
			api.Literal{Kind: kind, Atom: p, A: one, B: two}, api.Literal{Kind: kind, Atom: atom("p"), A: one, B: two}, api.Literal{Kind: kind, Atom: atom("", one), A: one, B: two})
		for _, t := range wrongTerms() {
			l = append(l, compared(kind, t, one), compared(kind, one, t))
		}
	}
	for _, a := range wrongAtoms() {
		l = append(l, holds(a), not(a))
	}
	return l
}

// wrongClauses returns lists with one clause that Check does not accept, with the error.
func wrongClauses() map[api.Errno][]api.Clause {
	p, q := atom("p"), atom("q")
	unformed := []api.Clause{clause(p, slices.Repeat([]api.Literal{holds(q)}, 6)...)}
	for _, a := range wrongAtoms() {
		unformed = append(unformed, clause(a), clause(a, holds(q)))
	}
	for _, b := range wrongLiterals() {
		unformed = append(unformed, clause(p, b), clause(p, holds(q), b))
	}
	x := atom("p", variable("X"))
	unsafe := []api.Clause{
		clause(x), clause(x, holds(q)), clause(x, not(x)), clause(p, not(x)), clause(x, compared(api.LiEqual, variable("X"), num(1))),
		clause(p, compared(api.LiEqual, variable("X"), variable("X"))), clause(p, compared(api.LiOther, num(1), variable("X"))), clause(p, compared(api.LiLess, variable("X"), num(1))), clause(p, compared(api.LiMost, num(1), variable("X"))),
		clause(atom("p", variable("X"), variable("Y")), holds(x)), clause(x, holds(atom("p", variable("Y"))), not(x)), clause(p, holds(x), not(atom("p", variable("X"), variable("Y")))),
		clause(p, holds(x), compared(api.LiLess, variable("X"), variable("Y"))), clause(x, holds(atom("p", name("x")))),
	}
	return map[api.Errno][]api.Clause{api.ErrForm: unformed, api.ErrUnsafe: unsafe}
}

func TestCheck(t *testing.T) {
	x := variable("X")
	for _, l := range [][]api.Clause{
		nil, clauses(example), slices.Repeat(clauses("p."), 40),
		clauses("p(X) if q(X), not r(X), X != 1, X < X."), clauses("p if not q, 1 = 2."), clauses("p(X, Y) if not q(X), X <= Y, r(a, X), r(Y, b)."),
		clauses("p if not p."), // not stratified
		{clause(atom("p"), api.Literal{Kind: api.LiEqual, Atom: api.Atom{Args: []api.Term{}}, A: num(1), B: num(1)})},
		{{Head: atom("p", x), Body: []api.Literal{holds(atom("q", x, x, x)), holds(atom("q", x, x, x)), holds(atom("q", x, x, x)), holds(atom("q", x, x, x)), holds(atom("q", x, x, x))}}},
		{clause(atom(strings.Repeat("a", 24), num(greatest), num(-greatest), name("ifs")))},
	} {
		if e, i := custom.Check(l); e != api.OK || i != 0 {
			t.Errorf("P8.2: Check of %v is %d, %d", l, e, i)
		}
	}
	if e, i := custom.Check(make([]api.Clause, 41)); e != api.ErrLimit || i != 0 {
		t.Errorf("P8.2: Check of 41 clauses is %d, %d", e, i)
	}
	good := clauses("p. q(X) if r(X). s.")
	for want, l := range wrongClauses() {
		for k, c := range l {
			for i := range len(good) + 1 {
				if e, n := custom.Check(slices.Insert(slices.Clone(good), i, c)); e != want || n != i {
					t.Errorf("P8.2: Check of %v behind %d clauses is %d, %d, not %d", c, i, e, n, want)
				}
			}
			if want == api.ErrForm && k%7 == 0 {
				if _, e := custom.Print(append(slices.Clone(good), c)); e != api.ErrForm {
					t.Errorf("P8.1: Print of %v is %d", c, e)
				}
			}
		}
	}
	unformed, unsafe := clause(atom("P")), clauses("p(X).")[0]
	for _, c := range []struct {
		l     []api.Clause
		want  api.Errno
		index int
	}{
		{[]api.Clause{unformed, unsafe}, api.ErrForm, 0},
		{[]api.Clause{unsafe, unformed}, api.ErrUnsafe, 0},
		{[]api.Clause{clause(atom("p", variable("X"), variable("y")))}, api.ErrForm, 0}, // not safe, either
		{slices.Repeat([]api.Clause{unformed}, 41), api.ErrLimit, 0},
		{append(slices.Repeat(clauses("p."), 39), unsafe), api.ErrUnsafe, 39},
	} {
		if e, i := custom.Check(c.l); e != c.want || i != c.index {
			t.Errorf("P8.2: Check of %v is %d, %d, not %d, %d", c.l, e, i, c.want, c.index)
		}
	}
}

func TestRandomSafety(t *testing.T) {
	r := newRand(8, 4)
	n := map[bool]int{}
	for range 5000 {
		c := clause(randomAtom(r, "ab", "X", "Y"))
		for range r.IntN(4) {
			c.Body = append(c.Body, pick(r, holds(randomAtom(r, "ab", "X", "Y", "Z")), not(randomAtom(r, "ab", "X", "Y", "Z")), compared(api.LiLess, randomTerm(r, "X"), randomTerm(r, "Y"))))
		}
		e, _ := custom.Check([]api.Clause{c})
		if is := slowSafe(c); is != (e == api.OK) || !is && e != api.ErrUnsafe {
			t.Fatalf("P8.2: Check of %v is %d", c, e)
		}
		n[e == api.OK]++
	}
	if min(n[true], n[false]) < 500 {
		t.Errorf("P8.2: these clauses test little: %v", n)
	}
}
