package custom_test

import (
	"slices"
	"testing"

	"boundstone/api"
	"boundstone/custom"
)

// inOrder returns atoms in their order, some of them not formed.
func inOrder() []api.Atom {
	return []api.Atom{
		{}, atom("", num(0)), atom("A"), atom("a"), atom("a", api.Term{Kind: -1}),
		atom("a", api.Term{N: -1, S: "z"}), atom("a", api.Term{}), atom("a", api.Term{S: "a"}), atom("a", api.Term{N: 1}),
		atom("a", num(-greatest-1)), atom("a", num(-greatest)), atom("a", num(-5)), atom("a", num(0)), atom("a", num(2)), atom("a", api.Term{Kind: api.TeNumber, N: 2, S: "a"}), atom("a", num(10)),
		atom("a", name("")), atom("a", name("B")), atom("a", name("a")), atom("a", name("a1")), atom("a", name("aa")), atom("a", api.Term{Kind: api.TeName, N: 1, S: "aa"}), atom("a", name("b")), atom("a", name("\xff")),
		atom("a", variable("A")), atom("a", api.Term{Kind: api.TeVar, N: 7, S: "B"}), atom("a", variable("Z")), atom("a", variable("a")),
		atom("a", api.Term{Kind: 4, N: -1, S: "b"}), atom("a", api.Term{Kind: 4, N: 1, S: "a"}), atom("a", api.Term{Kind: 4, N: 1, S: "b"}), atom("a", api.Term{Kind: 9}),
		atom("a", num(-9), variable("Z")), atom("a", num(1), num(9)), atom("a", num(1), name("a")), atom("a", name("a"), num(0)), atom("a", variable("A"), num(0)),
		atom("a", num(0), num(0), num(0)), atom("a", num(0), num(0), num(0), num(0)), atom("a1"), atom("aa"), atom("b"), atom("b", num(0)), atom("\x80"),
	}
}

func TestCompare(t *testing.T) {
	l := inOrder()
	for i, a := range l {
		for k, b := range l {
			want := max(-1, min(1, i-k))
			if n := custom.Compare(a, b); n != want {
				t.Errorf("P8.4: Compare of %v and %v is %d, not %d", a, b, n, want)
			}
		}
	}
	if n := custom.Compare(atom("p", []api.Term{}...), atom("p")); n != 0 {
		t.Errorf("P8.4: Compare of atoms without terms is %d", n)
	}
	r := newRand(8, 6)
	for range 5000 {
		a, b := randomAtom(r, "ab", "X", "Y"), randomAtom(r, "ab", "X", "Y")
		if n := custom.Compare(a, b); n != slowCompare(a, b) || (n == 0) != sameAtom(a, b) {
			t.Fatalf("P8.4: Compare of %v and %v is %d", a, b, n)
		}
	}
}

func TestMatch(t *testing.T) {
	for _, c := range []struct {
		pattern, a string
		want       bool
	}{
		{"p", "p", true}, {"p", "q", false}, {"p", "p(1)", false}, {"p(X)", "p", false}, {"p(X)", "p(1)", true}, {"p(X)", "q(1)", false},
		{"p(X, X)", "p(1, 1)", true}, {"p(X, X)", "p(1, 2)", false}, {"p(X, X)", "p(1, a)", false}, {"p(X, Y)", "p(1, 1)", true}, {"p(X, 2)", "p(1, 2)", true}, {"p(X, 2)", "p(2, 1)", false},
		{"p(X, a, X)", "p(b, a, b)", true}, {"p(X, a, X)", "p(b, b, b)", false}, {"p(X, a, X)", "p(b, a, a)", false}, {"p(X, Y, X)", "p(0, a, 0)", true}, {"p(X, X, X)", "p(0, 0, 1)", false}, {"p(Y, X, X)", "p(0, 1, 1)", true},
		{"p(a)", "p(a)", true}, {"p(a)", "p(b)", false}, {"p(1)", "p(a)", false}, {"p(1)", "p(1)", true}, {"p(-1)", "p(1)", false},
		{"p(1)", "p(X)", false}, {"p(X)", "p(X)", false}, {"p(X)", "p(Y)", false}, {"p(X, Y)", "p(1, Y)", false},
	} {
		if is := custom.Match(pattern(c.pattern), pattern(c.a)); is != c.want {
			t.Errorf("P8.4: Match of %s and %s is %v", c.pattern, c.a, is)
		}
	}
	for _, a := range wrongAtoms() {
		free := atom(a.Pred, slices.Repeat([]api.Term{variable("X")}, len(a.Args))...)
		if custom.Match(a, a) || custom.Match(free, a) || custom.Match(a, free) {
			t.Errorf("P8.4: Match of %v, which is not formed, is true", a)
		}
	}
	r := newRand(8, 7)
	n := map[bool]int{}
	for range 5000 {
		p, a := atom("p"), atom("p")
		for range 2 + r.IntN(2) {
			p.Args, a.Args = append(p.Args, randomTerm(r, "X", "Y", "Z")), append(a.Args, pick(r, num(0), num(1), name("a")))
		}
		want := slices.ContainsFunc(instances(clause(p), a.Args), func(c api.Clause) bool { return sameAtom(c.Head, a) })
		if is := custom.Match(p, a); is != want {
			t.Fatalf("P8.4: Match of %v and %v is %v", p, a, is)
		}
		n[want]++
	}
	if min(n[true], n[false]) < 500 {
		t.Errorf("P8.4: these atoms test little: %v", n)
	}
}
