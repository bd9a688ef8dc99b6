package custom

import (
	"slices"

	"boundstone/api"
)

func isLetter(c byte) bool { return isCapital(c) || c >= 'a' && c <= 'z' }

func isCapital(c byte) bool { return c >= 'A' && c <= 'Z' }

func isDigit(c byte) bool { return c >= '0' && c <= '9' }

// letters returns how many letters and digits a string begins with.
func letters(s string) int {
	n := 0
	for n < len(s) && (isLetter(s[n]) || isDigit(s[n])) {
		n++
	}
	return n
}

func isWord(s string) bool {
	return s != "" && len(s) <= api.MaxName && isLetter(s[0]) && letters(s) == len(s)
}

func isReserved(word string) bool { return word == "if" || word == "not" }

func isName(s string) bool { return isWord(s) && !isCapital(s[0]) && !isReserved(s) }

func isVariable(s string) bool { return isWord(s) && isCapital(s[0]) }

func isNumber(n int) bool { return n >= -api.MaxNumber && n <= api.MaxNumber }

func isFormedTerm(t api.Term) bool {
	switch t.Kind {
	case api.TeNumber:
		return isNumber(t.N) && t.S == ""
	case api.TeName:
		return isName(t.S) && t.N == 0
	case api.TeVar:
		return isVariable(t.S) && t.N == 0
	}
	return false
}

func isFormedAtom(a api.Atom) bool {
	return isName(a.Pred) && len(a.Args) <= api.MaxArgs && !slices.ContainsFunc(a.Args, func(t api.Term) bool { return !isFormedTerm(t) })
}

// isGround reports whether an atom is formed, and has no variables.
func isGround(a api.Atom) bool {
	return isFormedAtom(a) && !slices.ContainsFunc(a.Args, isVar)
}

func isVar(t api.Term) bool { return t.Kind == api.TeVar }

func isFormedLiteral(b api.Literal) bool {
	switch b.Kind {
	case api.LiAtom, api.LiNot:
		return isFormedAtom(b.Atom) && b.A == (api.Term{}) && b.B == (api.Term{})
	case api.LiEqual, api.LiOther, api.LiLess, api.LiMost:
		return isFormedTerm(b.A) && isFormedTerm(b.B) && b.Atom.Pred == "" && len(b.Atom.Args) == 0
	}
	return false
}

func isFormedClause(c api.Clause) bool {
	return isFormedAtom(c.Head) && len(c.Body) <= api.MaxBody && !slices.ContainsFunc(c.Body, func(b api.Literal) bool { return !isFormedLiteral(b) })
}

// isSafe reports whether each variable of a formed clause stands in an atom of the body that is not negated.
func isSafe(c api.Clause) bool {
	bound := make(map[string]bool)
	for _, b := range c.Body {
		if b.Kind == api.LiAtom {
			for _, name := range variablesOf(b) {
				bound[name] = true
			}
		}
	}
	return areBound(namesOf(c.Head.Args), bound) && !slices.ContainsFunc(c.Body, func(b api.Literal) bool { return !areBound(variablesOf(b), bound) })
}

func areBound(names []string, bound map[string]bool) bool {
	return !slices.ContainsFunc(names, func(name string) bool { return !bound[name] })
}

// variablesOf returns the variables that stand in a literal.
func variablesOf(b api.Literal) []string {
	return namesOf(append(slices.Clone(b.Atom.Args), b.A, b.B))
}

// namesOf returns the names of all variables among terms.
func namesOf(l []api.Term) []string {
	var names []string
	for _, t := range l {
		if isVar(t) {
			names = append(names, t.S)
		}
	}
	return names
}

// Check returns the first error of clauses, and the index of the clause.
func Check(l []api.Clause) (api.Errno, int) {
	if len(l) > api.MaxClauses {
		return api.ErrLimit, 0
	}
	for i, c := range l {
		if !isFormedClause(c) {
			return api.ErrForm, i
		}
		if !isSafe(c) {
			return api.ErrUnsafe, i
		}
	}
	return api.OK, 0
}
