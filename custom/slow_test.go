package custom_test

import (
	"cmp"
	"math/big"
	"regexp"
	"slices"
	"strings"

	"boundstone/api"
)

// The chapter's definitions, read slowly.

// slowToken is a token, as a terminal of the grammar of slowGrammar, and where it begins.
type slowToken struct {
	terminal byte
	at       int
}

var (
	separator  = regexp.MustCompile(`^(?:[ \t\n]|#[^\n]*)+`)
	word       = regexp.MustCompile(`^[A-Za-z][A-Za-z0-9]*`)
	number     = regexp.MustCompile(`^(?:0|-?[1-9][0-9]*)`)
	markOrNone = regexp.MustCompile(`^(?:!=|<=|>=|[(),.=<>])`)
	alphanum   = regexp.MustCompile(`^[A-Za-z0-9]`)
)

// slowTokens returns the tokens of a source; or none, and the index of the first byte that is wrong.
func slowTokens(source string) ([]slowToken, int) {
	var l []slowToken
	at := 0
	for at < len(source) {
		rest := source[at:]
		if s := separator.FindString(rest); s != "" {
			at += len(s)
			continue
		}
		w, n, m := word.FindString(rest), number.FindString(rest), markOrNone.FindString(rest)
		switch {
		case w != "":
			if len(w) > 24 {
				return nil, at
			}
			l = append(l, slowToken{wordTerminal(w), at})
		case n != "":
			v, _ := new(big.Int).SetString(n, 10)
			if v.CmpAbs(big.NewInt(1000000000)) > 0 {
				return nil, at
			}
			if alphanum.MatchString(rest[len(n):]) {
				return nil, at + len(n)
			}
			l = append(l, slowToken{'0', at})
		case m != "":
			l = append(l, slowToken{markTerminal(m), at})
		default:
			return nil, at
		}
		at += len(w) + len(n) + len(m)
	}
	return l, -1
}

func wordTerminal(w string) byte {
	switch {
	case w == "if":
		return 'i'
	case w == "not":
		return 't'
	case strings.ToUpper(w[:1]) == w[:1]:
		return 'v'
	}
	return 'n'
}

func markTerminal(m string) byte {
	if len(m) == 2 {
		return map[string]byte{"!=": '!', "<=": 'l', ">=": 'g'}[m]
	}
	return m[0]
}

// slowGrammar has, for each symbol that is no terminal, all that can stand in its place.
var slowGrammar = map[byte][]string{
	'P': {"", "CP"},
	'C': {"A.", "AiB."},
	'B': {"L", "L,B"},
	'L': {"A", "tA", "TOT"},
	'A': {"n", "n(S)"},
	'S': {"T", "T,S"},
	'T': {"v", "0", "n"},
	'O': {"=", "!", "<", "l", ">", "g"},
}

// opened returns all strings that a string of symbols can become, until a terminal stands first, or nothing.
func opened(s string) []string {
	if s == "" || slowGrammar[s[0]] == nil {
		return []string{s}
	}
	var l []string
	for _, x := range slowGrammar[s[0]] {
		l = append(l, opened(x+s[1:])...)
	}
	return l
}

// slowError returns the index in the source of the first token behind which nothing can make it a program ("P") or an atom ("A"), its length if there is none, but what it is lacks something, and -1 if it is one.
func slowError(source, symbol string, tokens []slowToken) int {
	states := opened(symbol)
	for _, t := range tokens {
		var next []string
		for _, s := range states {
			if s != "" && s[0] == t.terminal {
				next = append(next, opened(s[1:])...)
			}
		}
		slices.Sort(next)
		states = slices.Compact(next)
		if len(states) == 0 {
			return t.at
		}
	}
	if !slices.Contains(states, "") {
		return len(source)
	}
	return -1
}

// slowPredicate is the predicate of an atom.
type slowPredicate struct {
	name string
	args int
}

func predicateOf(a api.Atom) slowPredicate { return slowPredicate{a.Pred, len(a.Args)} }

// predicates returns all predicates that stand in clauses, in order.
func predicates(l []api.Clause) []slowPredicate {
	var m []slowPredicate
	for _, c := range l {
		m = append(m, predicateOf(c.Head))
		for _, b := range c.Body {
			if b.Kind <= api.LiNot {
				m = append(m, predicateOf(b.Atom))
			}
		}
	}
	slices.SortFunc(m, func(a, b slowPredicate) int {
		return cmp.Or(strings.Compare(a.name, b.name), a.args-b.args)
	})
	return slices.Compact(m)
}

// dependsOn returns what a predicate depends on.
func dependsOn(l []api.Clause, p slowPredicate) []slowPredicate {
	var m []slowPredicate
	todo := []slowPredicate{p}
	for len(todo) > 0 {
		p, todo = todo[0], todo[1:]
		for _, c := range l {
			for _, b := range c.Body {
				q := predicateOf(b.Atom)
				if b.Kind <= api.LiNot && predicateOf(c.Head) == p && !slices.Contains(m, q) {
					m, todo = append(m, q), append(todo, q)
				}
			}
		}
	}
	return m
}

func slowStratified(l []api.Clause) bool {
	for _, c := range l {
		for _, b := range c.Body {
			p, q := predicateOf(c.Head), predicateOf(b.Atom)
			if b.Kind == api.LiNot && (p == q || slices.Contains(dependsOn(l, q), p)) {
				return false
			}
		}
	}
	return true
}

// slowLevel returns the level of a predicate of clauses that are stratified: the most negations on a way along which it depends on others.
func slowLevel(l []api.Clause, p slowPredicate) int {
	level := 0
	for _, c := range l {
		for _, b := range c.Body {
			head := predicateOf(c.Head)
			if b.Kind == api.LiNot && (head == p || slices.Contains(dependsOn(l, p), head)) {
				level = max(level, slowLevel(l, predicateOf(b.Atom))+1)
			}
		}
	}
	return level
}

// variables returns the variables of a clause.
func variables(c api.Clause) []string {
	terms := slices.Clone(c.Head.Args)
	for _, b := range c.Body {
		terms = append(append(terms, b.Atom.Args...), b.A, b.B)
	}
	var l []string
	for _, t := range terms {
		if t.Kind == api.TeVar && !slices.Contains(l, t.S) {
			l = append(l, t.S)
		}
	}
	return l
}

func slowSafe(c api.Clause) bool {
	bound := api.Clause{}
	for _, b := range c.Body {
		if b.Kind == api.LiAtom {
			bound.Body = append(bound.Body, b)
		}
	}
	return !slices.ContainsFunc(variables(c), func(v string) bool { return !slices.Contains(variables(bound), v) })
}

// universe returns all ground terms that stand in clauses and atoms.
func universe(l []api.Clause, base []api.Atom) []api.Term {
	var terms []api.Term
	for _, a := range base {
		terms = append(terms, a.Args...)
	}
	for _, c := range l {
		terms = append(terms, c.Head.Args...)
		for _, b := range c.Body {
			terms = append(append(terms, b.Atom.Args...), b.A, b.B)
		}
	}
	var ground []api.Term
	for _, t := range terms {
		if (t.Kind == api.TeNumber || t.Kind == api.TeName) && !slices.Contains(ground, t) {
			ground = append(ground, t)
		}
	}
	return ground
}

// replaced returns an atom with a term in place of a variable.
func replaced(a api.Atom, v string, by api.Term) api.Atom {
	b := atom(a.Pred)
	for _, t := range a.Args {
		if t == variable(v) {
			t = by
		}
		b.Args = append(b.Args, t)
	}
	return b
}

// instances returns all instances of a clause with some terms.
func instances(c api.Clause, terms []api.Term) []api.Clause {
	l := variables(c)
	if len(l) == 0 {
		return []api.Clause{c}
	}
	var m []api.Clause
	for _, t := range terms {
		d := clause(replaced(c.Head, l[0], t))
		for _, b := range c.Body {
			two := replaced(atom("", b.A, b.B), l[0], t).Args
			d.Body = append(d.Body, api.Literal{Kind: b.Kind, Atom: replaced(b.Atom, l[0], t), A: two[0], B: two[1]})
		}
		m = append(m, instances(d, terms)...)
	}
	return m
}

// slowTrue reports whether a literal of an instance is true if some atoms hold.
func slowTrue(b api.Literal, holding []api.Atom) bool {
	switch b.Kind {
	case api.LiAtom:
		return hasAtom(holding, b.Atom)
	case api.LiNot:
		return !hasAtom(holding, b.Atom)
	case api.LiEqual:
		return b.A == b.B
	case api.LiOther:
		return b.A != b.B
	case api.LiLess:
		return b.A.Kind == api.TeNumber && b.B.Kind == api.TeNumber && b.A.N < b.B.N
	}
	return b.A.Kind == api.TeNumber && b.B.Kind == api.TeNumber && b.A.N <= b.B.N
}

func slowBody(c api.Clause, holding []api.Atom) bool {
	return !slices.ContainsFunc(c.Body, func(b api.Literal) bool { return !slowTrue(b, holding) })
}

// termRank says in which order kinds of terms stand.
func termRank(t api.Term) string {
	switch t.Kind {
	case api.TeNumber:
		return "1"
	case api.TeName:
		return "2" + t.S
	}
	return "3" + t.S
}

// slowCompare compares formed atoms.
func slowCompare(a, b api.Atom) int {
	if a.Pred != b.Pred {
		return strings.Compare(a.Pred, b.Pred)
	}
	if len(a.Args) != len(b.Args) {
		return cmp.Compare(len(a.Args), len(b.Args))
	}
	for i := range a.Args {
		x, y := a.Args[i], b.Args[i]
		if termRank(x) != termRank(y) {
			return strings.Compare(termRank(x), termRank(y))
		}
		if x.N != y.N {
			return cmp.Compare(x.N, y.N)
		}
	}
	return 0
}

// slowModel returns what holds, for clauses that are stratified and safe, in order.
func slowModel(l []api.Clause, base []api.Atom) []api.Atom {
	var holding []api.Atom
	for _, a := range base {
		if !hasAtom(holding, a) {
			holding = append(holding, a)
		}
	}
	terms := universe(l, base)
	for level := 0; level <= len(l); level++ {
		for before := -1; before < len(holding); {
			before = len(holding)
			for _, c := range l {
				if slowLevel(l, predicateOf(c.Head)) != level {
					continue
				}
				for _, d := range instances(c, terms) {
					if slowBody(d, holding) && !hasAtom(holding, d.Head) {
						holding = append(holding, d.Head)
					}
				}
			}
		}
	}
	slices.SortFunc(holding, slowCompare)
	return holding
}

// slowSteps reports whether steps derive what holds; the clauses and atoms that are given are valid.
func slowSteps(l []api.Clause, base []api.Atom, steps []api.Step) bool {
	var holding []api.Atom
	for _, s := range steps {
		if hasAtom(holding, s.Atom) || !slowGround(s.Atom) {
			return false
		}
		holding = append(holding, s.Atom)
	}
	terms := universe(l, slices.Concat(base, holding))
	for i, s := range steps {
		if !slowStep(l, base, holding, i, s, terms) {
			return false
		}
	}
	for _, a := range base {
		if !hasAtom(holding, a) {
			return false
		}
	}
	for _, c := range l {
		for _, d := range instances(c, terms) {
			if slowBody(d, holding) && !hasAtom(holding, d.Head) {
				return false
			}
		}
	}
	return true
}

// slowStep reports whether a step derives its atom.
func slowStep(l []api.Clause, base, holding []api.Atom, i int, s api.Step, terms []api.Term) bool {
	if s.Clause == -1 {
		return len(s.From) == 0 && hasAtom(base, s.Atom)
	}
	if s.Clause < 0 || s.Clause >= len(l) {
		return false
	}
	return slices.ContainsFunc(instances(l[s.Clause], terms), func(d api.Clause) bool {
		var wanted, there []api.Atom
		for _, b := range d.Body {
			if b.Kind == api.LiAtom {
				wanted = append(wanted, b.Atom)
			} else if !slowTrue(b, holding) {
				return false
			}
		}
		for _, n := range s.From {
			if n < 0 || n >= i {
				return false
			}
			there = append(there, holding[n])
		}
		return sameAtom(d.Head, s.Atom) && sameAtoms(wanted, there)
	})
}

var namePattern = regexp.MustCompile(`^[a-z][A-Za-z0-9]{0,23}$`)

// slowName reports whether a string is a name.
func slowName(s string) bool { return namePattern.MatchString(s) && s != "if" && s != "not" }

// slowGround reports whether an atom is formed and ground.
func slowGround(a api.Atom) bool {
	return slowName(a.Pred) && len(a.Args) <= 3 && !slices.ContainsFunc(a.Args, func(t api.Term) bool {
		isNumber := t.Kind == api.TeNumber && t.N >= -greatest && t.N <= greatest && t.S == ""
		isName := t.Kind == api.TeName && t.N == 0 && slowName(t.S)
		return !isNumber && !isName
	})
}
