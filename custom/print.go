package custom

import (
	"slices"
	"strconv"
	"strings"

	"boundstone/api"
)

// Print returns clauses as a source.
func Print(l []api.Clause) (string, api.Errno) {
	if len(l) > api.MaxClauses {
		return "", api.ErrLimit
	}
	if slices.ContainsFunc(l, func(c api.Clause) bool { return !isFormedClause(c) }) {
		return "", api.ErrForm
	}
	var s strings.Builder
	for _, c := range l {
		s.WriteString(clauseText(c))
		s.WriteString("\n")
	}
	return s.String(), api.OK
}

// PrintAtom returns an atom as a source.
func PrintAtom(a api.Atom) (string, api.Errno) {
	if !isFormedAtom(a) {
		return "", api.ErrForm
	}
	return atomText(a), api.OK
}

func clauseText(c api.Clause) string {
	text := atomText(c.Head)
	if len(c.Body) > 0 {
		text += " if " + joined(c.Body, literalText)
	}
	return text + "."
}

func literalText(b api.Literal) string {
	switch b.Kind {
	case api.LiAtom:
		return atomText(b.Atom)
	case api.LiNot:
		return "not " + atomText(b.Atom)
	}
	return termText(b.A) + " " + markOf(b.Kind) + " " + termText(b.B)
}

// markOf returns the mark of a kind of comparisons.
func markOf(kind int) string {
	switch kind {
	case api.LiEqual:
		return "="
	case api.LiOther:
		return "!="
	case api.LiLess:
		return "<"
	}
	return "<="
}

// atomText returns the text of a formed atom; different ones have different texts.
func atomText(a api.Atom) string {
	if len(a.Args) == 0 {
		return a.Pred
	}
	return a.Pred + "(" + joined(a.Args, termText) + ")"
}

func termText(t api.Term) string {
	if t.Kind == api.TeNumber {
		return strconv.Itoa(t.N)
	}
	return t.S
}

// joined returns the texts of the elements of a list, with a comma and a blank between them.
func joined[T any](l []T, text func(T) string) string {
	texts := make([]string, len(l))
	for i, x := range l {
		texts[i] = text(x)
	}
	return strings.Join(texts, ", ")
}
