package custom

import (
	"iter"
	"slices"
	"strconv"

	"boundstone/api"
)

// world is atoms that hold, each with the step that derives it.
type world struct {
	steps  []api.Step
	places map[string]int      // the indices of the steps, by the texts of their atoms
	byKind map[predicate][]int // the same, in increasing order, by their predicates
}

func newWorld() *world {
	return &world{places: make(map[string]int), byKind: make(map[predicate][]int)}
}

func (w *world) has(a api.Atom) bool {
	_, is := w.places[atomText(a)]
	return is
}

// add adds a step, unless its atom holds already.
func (w *world) add(s api.Step) {
	text := atomText(s.Atom)
	if _, is := w.places[text]; is {
		return
	}
	i, p := len(w.steps), predicateOf(s.Atom)
	w.steps = append(w.steps, s)
	w.places[text] = i
	w.byKind[p] = append(w.byKind[p], i)
}

// upTo returns the indices of the steps up to one that derive atoms of a predicate.
func (w *world) upTo(last int, p predicate) []int {
	n, _ := slices.BinarySearch(w.byKind[p], last+1)
	return w.byKind[p][:n]
}

// allows reports whether a literal that is no LiAtom is true.
func (w *world) allows(b api.Literal, bonds []bond) bool {
	one, two := valueOf(b.A, bonds), valueOf(b.B, bonds)
	areNumbers := one.Kind == api.TeNumber && two.Kind == api.TeNumber
	switch b.Kind {
	case api.LiNot:
		return !w.has(substituted(b.Atom, bonds))
	case api.LiEqual:
		return one == two
	case api.LiOther:
		return one != two
	case api.LiLess:
		return areNumbers && one.N < two.N
	}
	return areNumbers && one.N <= two.N
}

// following yields steps for what follows from the atoms up to one, but not without it; for the index -1 what follows from none.
func (w *world) following(last int, plans []plan) iter.Seq[api.Step] {
	return func(yield func(api.Step) bool) {
		var first predicate
		if last >= 0 {
			first = predicateOf(w.steps[last].Atom)
		}
		for _, p := range plans {
			if p.first != first {
				continue
			}
			for s := range w.instances(p, last) {
				if !yield(s) {
					return
				}
			}
		}
	}
}

// instances yields a step for each head of an instance whose atoms are those of steps up to one, which is that of the first literal of the plan.
func (w *world) instances(p plan, last int) iter.Seq[api.Step] {
	return func(yield func(api.Step) bool) {
		var from [api.MaxBody]int
		seen := make(map[string]bool)
		// extend goes on with the stage k. It returns in how many of the stages ahead of it another choice can matter: the same heads follow from all choices in the other ones.
		var extend func(k int, bonds []bond) int
		extend = func(k int, bonds []bond) int {
			s := p.stages[k]
			if s.tests() {
				if !w.allows(s.literal, bonds) {
					return s.enough
				}
				return min(s.enough, extend(k+1, bonds))
			}
			state := stateText(k, s.needed, bonds)
			if seen[state] {
				return s.enough
			}
			seen[state] = true
			if k == len(p.stages)-1 {
				if !yield(api.Step{Atom: substituted(p.head, bonds), Clause: p.clause, From: slices.Clone(from[:p.atoms])}) {
					return 0
				}
				return s.enough
			}
			for _, i := range w.choices(p, k, last) {
				more, is := matched(s.literal.Atom, w.steps[i].Atom, bonds)
				if !is {
					continue
				}
				from[s.slot] = i
				if n := extend(k+1, more); n <= k {
					return min(s.enough, n)
				}
			}
			return s.enough
		}
		extend(0, make([]bond, 0, api.MaxBody*api.MaxArgs))
	}
}

// choices returns the indices of the steps that can be those of a stage of a plan, up to one, which is that of the first stage.
func (w *world) choices(p plan, k, last int) []int {
	if k == 0 {
		return []int{last}
	}
	return w.upTo(last, predicateOf(p.stages[k].literal.Atom))
}

// stateText is the same for two states of a search if the same can follow from them.
func stateText(k int, needed []api.Term, bonds []bond) string {
	return strconv.Itoa(k) + ": " + joined(needed, func(t api.Term) string { return termText(valueOf(t, bonds)) })
}
