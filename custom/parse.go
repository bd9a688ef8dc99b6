package custom

import (
	"slices"

	"boundstone/api"
)

// reader reads the tokens of a source, one after the other.
type reader struct {
	rest []token
	end  int // the length of the source
}

// Parse returns the clauses that a source is, or an error with the index of a byte.
func Parse(source string) ([]api.Clause, api.Errno, int) {
	var l []api.Clause
	e, at := read(source, func(r *reader) {
		for len(r.rest) > 0 {
			l = append(l, r.clause())
		}
		if len(l) > api.MaxClauses || slices.ContainsFunc(l, isTooLong) {
			panic(stop{api.ErrLimit, 0})
		}
	})
	if e != api.OK {
		return nil, e, at
	}
	return l, api.OK, 0
}

// isTooLong reports whether a body has too many literals, or an atom of a clause too many terms.
func isTooLong(c api.Clause) bool {
	return len(c.Body) > api.MaxBody || len(c.Head.Args) > api.MaxArgs ||
		slices.ContainsFunc(c.Body, func(b api.Literal) bool { return len(b.Atom.Args) > api.MaxArgs })
}

// ParseAtom returns the atom that a source is, or an error with the index of a byte.
func ParseAtom(source string) (api.Atom, api.Errno, int) {
	var a api.Atom
	e, at := read(source, func(r *reader) {
		a = r.atom(r.name())
		if len(r.rest) > 0 {
			r.fail()
		}
		if len(a.Args) > api.MaxArgs {
			panic(stop{api.ErrLimit, 0})
		}
	})
	if e != api.OK {
		return api.Atom{}, e, at
	}
	return a, api.OK, 0
}

// read lets a function read the tokens of a source, and returns the error for which this is given up.
func read(source string, by func(r *reader)) (e api.Errno, at int) {
	defer func() {
		if x := recover(); x != nil {
			s := x.(stop)
			e, at = s.err, s.at
		}
	}()
	if len(source) > api.MaxSource {
		return api.ErrLimit, 0
	}
	by(&reader{rest: slices.Collect(tokens(source)), end: len(source)})
	return api.OK, 0
}

// fail gives up at the next token.
func (r *reader) fail() {
	if len(r.rest) == 0 {
		giveUp(r.end)
	}
	giveUp(r.rest[0].at)
}

// next returns the next token, none at the end.
func (r *reader) next() token {
	if len(r.rest) == 0 {
		return token{}
	}
	return r.rest[0]
}

// takes passes a mark, if it is the next token.
func (r *reader) takes(mark string) bool {
	is := r.next().mark == mark
	if is {
		r.rest = r.rest[1:]
	}
	return is
}

func (r *reader) needs(mark string) {
	if !r.takes(mark) {
		r.fail()
	}
}

func (r *reader) term() api.Term {
	t := r.next().term
	if t.Kind == 0 {
		r.fail()
	}
	r.rest = r.rest[1:]
	return t
}

func (r *reader) name() string {
	if r.next().term.Kind != api.TeName {
		r.fail()
	}
	return r.term().S
}

// atom returns the atom that begins with a name, which was read before.
func (r *reader) atom(name string) api.Atom {
	a := api.Atom{Pred: name}
	if !r.takes("(") {
		return a
	}
	a.Args = append(a.Args, r.term())
	for r.takes(",") {
		a.Args = append(a.Args, r.term())
	}
	r.needs(")")
	return a
}

func (r *reader) clause() api.Clause {
	c := api.Clause{Head: r.atom(r.name())}
	if r.takes("if") {
		c.Body = append(c.Body, r.literal())
		for r.takes(",") {
			c.Body = append(c.Body, r.literal())
		}
	}
	r.needs(".")
	return c
}

func (r *reader) literal() api.Literal {
	if r.takes("not") {
		return api.Literal{Kind: api.LiNot, Atom: r.atom(r.name())}
	}
	a, mark := r.term(), r.next().mark
	if kind, reversed := kindOf(mark); kind != 0 {
		r.needs(mark)
		b := r.term()
		if reversed {
			a, b = b, a
		}
		return api.Literal{Kind: kind, A: a, B: b}
	}
	if a.Kind != api.TeName {
		r.fail()
	}
	return api.Literal{Kind: api.LiAtom, Atom: r.atom(a.S)}
}

// kindOf returns the kind of the comparison that a mark is (0: it is none), and whether the terms change their places.
func kindOf(mark string) (kind int, reversed bool) {
	switch mark {
	case "=":
		return api.LiEqual, false
	case "!=":
		return api.LiOther, false
	case "<":
		return api.LiLess, false
	case ">":
		return api.LiLess, true
	case "<=":
		return api.LiMost, false
	case ">=":
		return api.LiMost, true
	}
	return 0, false
}
