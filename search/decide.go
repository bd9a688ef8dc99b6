package search

import "boundstone/api"

// checkAsked returns the error of Check, then ErrArg unless a fact is formed for a problem, then ErrLimit if there is no room for it.
func checkAsked(p api.Problem, f api.Fact) api.Errno {
	if e := Check(p); e != api.OK {
		return e
	}
	if !formed(f, len(p.Boxes)) {
		return api.ErrArg
	}
	if len(p.Facts) >= api.MaxFacts {
		return api.ErrLimit
	}
	return api.OK
}

// Decide returns whether a fact holds in all solutions, in none, or in some.
func Decide(p api.Problem, f api.Fact) (api.Answer, api.Errno) {
	if e := checkAsked(p, f); e != api.OK {
		return 0, e
	}
	alone, e := contradicts(p)
	if e != api.OK {
		return 0, e
	}
	so, e := contradicts(with(p, f))
	if e != api.OK {
		return 0, e
	}
	notSo, e := contradicts(with(p, opposite(f)))
	if e != api.OK {
		return 0, e
	}
	switch {
	case alone:
		return 0, api.ErrClash
	case notSo:
		return api.Yes, api.OK
	case so:
		return api.No, api.OK
	}
	return api.Open, api.OK
}

// Prove returns a tree that shows that a fact holds in all solutions.
func Prove(p api.Problem, f api.Fact) ([]api.Node, api.Errno) {
	answer, e := Decide(p, f)
	if e != api.OK {
		return nil, e
	}
	if answer != api.Yes {
		return nil, api.ErrNone
	}
	return Refute(with(p, opposite(f)))
}

// CheckProof returns OK if a tree shows that a fact holds in all solutions.
func CheckProof(p api.Problem, f api.Fact, tree []api.Node) api.Errno {
	if e := checkAsked(p, f); e != api.OK {
		return e
	}
	return CheckTree(with(p, opposite(f)), tree)
}
