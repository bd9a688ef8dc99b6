package custom

import (
	"slices"

	"boundstone/api"
)

// CheckSteps returns OK if steps derive all atoms that hold, and no others.
func CheckSteps(l []api.Clause, base []api.Atom, steps []api.Step) api.Errno {
	if e := checkGiven(l, base); e != api.OK {
		return e
	}
	if len(steps) > api.MaxModel {
		return api.ErrLimit
	}
	w := newWorld()
	for _, s := range steps {
		if !isGround(s.Atom) || w.has(s.Atom) {
			return api.ErrProof
		}
		w.add(s)
	}
	for i := range steps {
		if !w.isDerived(i, l, base) {
			return api.ErrProof
		}
	}
	if !w.isWhole(l, base) {
		return api.ErrProof
	}
	return api.OK
}

// isDerived reports whether the atom of a step is given, or the clause of the step derives it from those of earlier steps.
func (w *world) isDerived(i int, l []api.Clause, base []api.Atom) bool {
	s := w.steps[i]
	if s.Clause == -1 {
		return len(s.From) == 0 && has(base, s.Atom)
	}
	if s.Clause < 0 || s.Clause >= len(l) {
		return false
	}
	c, rest := l[s.Clause], s.From
	var bonds []bond
	for _, b := range c.Body {
		if b.Kind != api.LiAtom {
			continue
		}
		if len(rest) == 0 || rest[0] < 0 || rest[0] >= i {
			return false
		}
		more, is := matched(b.Atom, w.steps[rest[0]].Atom, bonds)
		if !is {
			return false
		}
		bonds, rest = more, rest[1:]
	}
	wrong := func(b api.Literal) bool { return b.Kind != api.LiAtom && !w.allows(b, bonds) }
	return len(rest) == 0 && same(substituted(c.Head, bonds), s.Atom) && !slices.ContainsFunc(c.Body, wrong)
}

// isWhole reports whether all given atoms are those of steps, and also all that follows from the atoms of steps.
func (w *world) isWhole(l []api.Clause, base []api.Atom) bool {
	if slices.ContainsFunc(base, func(a api.Atom) bool { return !w.has(a) }) {
		return false
	}
	plans := slices.Concat(plansByLevel(l)...)
	for i := -1; i < len(w.steps); i++ {
		for s := range w.following(i, plans) {
			if !w.has(s.Atom) {
				return false
			}
		}
	}
	return true
}

// Why returns the indices of the steps on which that of an atom rests.
func Why(steps []api.Step, a api.Atom) ([]int, api.Errno) {
	if len(steps) > api.MaxModel {
		return nil, api.ErrLimit
	}
	for i, s := range steps {
		if slices.ContainsFunc(s.From, func(n int) bool { return n < 0 || n >= i }) {
			return nil, api.ErrProof
		}
	}
	last := slices.IndexFunc(steps, func(s api.Step) bool { return same(s.Atom, a) })
	if last == -1 {
		return nil, api.ErrNone
	}
	wanted := make([]bool, last+1)
	wanted[last] = true
	var indices []int
	for i := last; i >= 0; i-- {
		if wanted[i] {
			indices = append(indices, i)
			for _, n := range steps[i].From {
				wanted[n] = true
			}
		}
	}
	slices.Reverse(indices)
	return indices, api.OK
}
