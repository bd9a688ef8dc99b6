package credit

import (
	"slices"

	"boundstone/api"
	"boundstone/search"
)

// Prove returns a conflict of accounts that are a minimal contradiction.
func Prove(b api.Bench, ids []int) (api.Conflict, api.Errno) {
	if e := checkNamed(b, ids); e != api.OK {
		return api.Conflict{}, e
	}
	return prove(b, ids)
}

// prove returns a conflict of accounts; ErrLimit if one of its problems is not tractable, and ErrState unless the accounts are a minimal contradiction.
func prove(b api.Bench, ids []int) (api.Conflict, api.Errno) {
	tree, e := search.Refute(only(b, ids))
	if e == api.ErrLimit {
		return api.Conflict{}, e
	}
	c := api.Conflict{IDs: slices.Clone(ids), Tree: tree}
	minimal := e == api.OK
	for _, id := range ids {
		l, e := search.Solve(only(b, minus(ids, []int{id})))
		if e == api.ErrLimit {
			return api.Conflict{}, e
		}
		minimal = minimal && e == api.OK
		c.Ends = append(c.Ends, l)
	}
	if !minimal {
		return api.Conflict{}, api.ErrState
	}
	return c, api.OK
}

// Account returns the least withdrawals with proofs.
func Account(b api.Bench) (api.Judgement, api.Errno) {
	d, e := settle(b)
	if e != api.OK {
		return api.Judgement{}, e
	}
	j := api.Judgement{Price: d.price, Least: d.least}
	for _, set := range d.least {
		l, _ := search.Solve(others(b, set))
		j.Points = append(j.Points, l)
	}
	for _, set := range d.contradictions {
		c, _ := prove(b, set)
		j.Conflicts = append(j.Conflicts, c)
	}
	return j, api.OK
}

// CheckConflict returns OK if a conflict is proved.
func CheckConflict(b api.Bench, c api.Conflict) api.Errno {
	if e := checkNamed(b, c.IDs); e != api.OK {
		return e
	}
	return proved(func() { needConflict(b, c) })
}

// CheckAccount returns OK if the least withdrawals are proved.
func CheckAccount(b api.Bench, j api.Judgement) api.Errno {
	if e := Check(b); e != api.OK {
		return e
	}
	if len(j.Conflicts) > api.MaxFamily {
		return api.ErrLimit
	}
	return proved(func() { needJudgement(b, j) })
}

// proved returns ErrProof if a check gives up with panic.
func proved(check func()) (e api.Errno) {
	defer func() {
		if recover() != nil {
			e = api.ErrProof
		}
	}()
	check()
	return api.OK
}

// need gives up unless something is so.
func need(is bool) {
	if !is {
		panic(api.ErrProof)
	}
}

// needConflict gives up unless a conflict is proved; its IDs are a set of accounts.
func needConflict(b api.Bench, c api.Conflict) {
	need(len(c.Ends) == len(c.IDs))
	need(search.CheckTree(only(b, c.IDs), c.Tree) == api.OK)
	for i, id := range c.IDs {
		needSolution(only(b, minus(c.IDs, []int{id})), c.Ends[i])
	}
}

func needSolution(p api.Problem, l []api.Point) {
	_, is := search.Allows(p, l)
	need(is)
}

// needJudgement gives up unless a judgement is proved.
func needJudgement(b api.Bench, j api.Judgement) {
	var family [][]int
	for _, c := range j.Conflicts {
		need(CheckConflict(b, c) == api.OK)
		family = append(family, c.IDs)
	}
	price, least := cheapest(b, hitting(family))
	need(len(least) > 0)
	need(j.Price == price)
	need(slices.EqualFunc(j.Least, least, slices.Equal))
	need(len(j.Points) == len(least))
	for i, set := range least {
		needSolution(others(b, set), j.Points[i])
	}
}
