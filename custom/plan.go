package custom

import (
	"slices"

	"boundstone/api"
)

// plan is a clause, and the order in which its literals are looked at to find instances.
type plan struct {
	clause int // its index
	head   api.Atom
	atoms  int       // how many LiAtoms there are
	first  predicate // that of the first literal, if this is a LiAtom
	stages []stage   // one for each literal, in this order, and one behind them
}

// stage is a literal of a plan, and what matters of the stages before it.
type stage struct {
	literal api.Literal
	slot    int        // how many LiAtoms stand ahead of it in the clause
	needed  []api.Term // the variables that are bound before, and stand in it, in a later literal, or in the head
	enough  int        // how many of the first stages bind all of these
}

// tests reports whether the literal only tests variables, all of which are bound before.
func (s stage) tests() bool { return s.literal.Kind != 0 && s.literal.Kind != api.LiAtom }

// plansOf returns plans of a clause: for each LiAtom one that begins with it; for a clause without any just one.
func plansOf(c api.Clause, index int) []plan {
	p := plan{clause: index, head: c.Head, atoms: countAtoms(c.Body)}
	if p.atoms == 0 {
		p.stages = stagesOf(c, arranged(c.Body, -1))
		return []plan{p}
	}
	var l []plan
	for i, b := range c.Body {
		if b.Kind == api.LiAtom {
			p.first, p.stages = predicateOf(b.Atom), stagesOf(c, arranged(c.Body, i))
			l = append(l, p)
		}
	}
	return l
}

// arranged returns an order of the indices of literals that begins with a given one (with none if that is -1).
func arranged(body []api.Literal, first int) []int {
	var order []int
	bound := make(map[string]bool)
	for len(order) < len(body) {
		next := first
		if len(order) > 0 || first == -1 {
			next = readiest(body, order, bound)
		}
		order = append(order, next)
		if body[next].Kind == api.LiAtom {
			for _, name := range variablesOf(body[next]) {
				bound[name] = true
			}
		}
	}
	return order
}

// readiest returns the index of the literal that should be looked at next, behind some others that bind variables.
func readiest(body []api.Literal, order []int, bound map[string]bool) int {
	best, most := -1, 0
	for i, b := range body {
		if slices.Contains(order, i) {
			continue
		}
		if n := readiness(b, bound); best == -1 || n > most {
			best, most = i, n
		}
	}
	return best
}

// readiness says how early a literal should be looked at: what only tests the variables as soon as they are bound, otherwise the atom of which most is known.
func readiness(b api.Literal, bound map[string]bool) int {
	free := 0
	for _, name := range variablesOf(b) {
		if !bound[name] {
			free++
		}
	}
	const known = api.MaxArgs + 1 // outweighs all terms that are not known
	switch {
	case b.Kind == api.LiAtom:
		return known*(len(b.Atom.Args)-free) - free
	case free == 0:
		return known * known
	}
	return -known
}

// stagesOf returns the stages of a clause with an order of its literals.
func stagesOf(c api.Clause, order []int) []stage {
	boundBy := make(map[string]int) // how many stages it takes to bind a variable
	for k, i := range order {
		if c.Body[i].Kind != api.LiAtom {
			continue
		}
		for _, name := range variablesOf(c.Body[i]) {
			if boundBy[name] == 0 {
				boundBy[name] = k + 1
			}
		}
	}
	var stages []stage
	for k, i := range order {
		s := between(c, order, k, boundBy)
		s.literal, s.slot = c.Body[i], countAtoms(c.Body[:i])
		stages = append(stages, s)
	}
	return append(stages, between(c, order, len(order), boundBy))
}

// between returns a stage without a literal, and what matters there of the first k stages.
func between(c api.Clause, order []int, k int, boundBy map[string]int) stage {
	names := namesOf(c.Head.Args)
	for _, i := range order[k:] {
		names = append(names, variablesOf(c.Body[i])...)
	}
	slices.Sort(names)
	var s stage
	for _, name := range slices.Compact(names) {
		if n := boundBy[name]; n <= k {
			s.needed = append(s.needed, api.Term{Kind: api.TeVar, S: name})
			s.enough = max(s.enough, n)
		}
	}
	return s
}

// countAtoms returns how many LiAtoms a body has.
func countAtoms(body []api.Literal) int {
	n := 0
	for _, b := range body {
		if b.Kind == api.LiAtom {
			n++
		}
	}
	return n
}
