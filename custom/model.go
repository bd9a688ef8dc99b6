package custom

import (
	"slices"

	"boundstone/api"
)

// checkGiven returns the error of Check, then ErrCycle, then those of base.
func checkGiven(l []api.Clause, base []api.Atom) api.Errno {
	if _, e := checkStrata(l); e != api.OK {
		return e
	}
	return checkBase(base)
}

// checkBase returns ErrLimit if too many atoms are given, then ErrArg if one is not ground.
func checkBase(base []api.Atom) api.Errno {
	if len(base) > api.MaxBase {
		return api.ErrLimit
	}
	if slices.ContainsFunc(base, func(a api.Atom) bool { return !isGround(a) }) {
		return api.ErrArg
	}
	return api.OK
}

// plansByLevel returns plans for valid clauses, by the levels of their heads.
func plansByLevel(l []api.Clause) [][]plan {
	levels, _ := levelsOf(l)
	plans := make([][]plan, len(l)+1)
	for i, c := range l {
		n := levels[predicateOf(c.Head)]
		plans[n] = append(plans[n], plansOf(c, i)...)
	}
	return plans
}

// derived returns what holds, if the clauses and what is given are valid; ErrLimit if that is too much.
func derived(l []api.Clause, base []api.Atom) (*world, api.Errno) {
	w := newWorld()
	for _, a := range base {
		w.add(api.Step{Atom: substituted(a, nil), Clause: -1})
	}
	for _, plans := range plansByLevel(l) {
		for i := -1; i < len(w.steps); i++ { // the steps become more
			for s := range w.following(i, plans) {
				w.add(s)
				if len(w.steps) > api.MaxModel {
					return nil, api.ErrLimit
				}
			}
		}
	}
	return w, api.OK
}

// Derive returns steps that derive all atoms that hold.
func Derive(l []api.Clause, base []api.Atom) ([]api.Step, api.Errno) {
	if e := checkGiven(l, base); e != api.OK {
		return nil, e
	}
	w, e := derived(l, base)
	if e != api.OK {
		return nil, e
	}
	return w.steps, api.OK
}

// model returns what holds, in order, if the clauses and what is given are valid; ErrLimit if that is too much.
func model(l []api.Clause, base []api.Atom) ([]api.Atom, api.Errno) {
	w, e := derived(l, base)
	if e != api.OK {
		return nil, e
	}
	var atoms []api.Atom
	for _, s := range w.steps {
		atoms = append(atoms, s.Atom)
	}
	slices.SortFunc(atoms, Compare)
	return atoms, api.OK
}

// Model returns all atoms that hold.
func Model(l []api.Clause, base []api.Atom) ([]api.Atom, api.Errno) {
	if e := checkGiven(l, base); e != api.OK {
		return nil, e
	}
	return model(l, base)
}

// Holds reports whether an atom holds.
func Holds(l []api.Clause, base []api.Atom, a api.Atom) (bool, api.Errno) {
	atoms, e := Model(l, base)
	if e != api.OK {
		return false, e
	}
	if !isGround(a) {
		return false, api.ErrArg
	}
	return has(atoms, a), api.OK
}

// Ask returns all atoms that hold and are instances of a pattern.
func Ask(l []api.Clause, base []api.Atom, pattern api.Atom) ([]api.Atom, api.Errno) {
	atoms, e := Model(l, base)
	if e != api.OK {
		return nil, e
	}
	if !isFormedAtom(pattern) {
		return nil, api.ErrArg
	}
	return slices.DeleteFunc(atoms, func(a api.Atom) bool { return !Match(pattern, a) }), api.OK
}
