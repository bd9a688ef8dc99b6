package credit

import (
	"slices"

	"boundstone/api"
	"boundstone/search"
)

// isID reports whether a number can name a witness or an account.
func isID(id int) bool { return id >= 1 && id <= api.MaxID }

// isTold reports whether a record can have so many accounts.
func isTold(n int) bool { return n >= 0 && n <= api.MaxTold }

func valid(w api.Witness) bool { return isID(w.ID) && isTold(w.Right) && isTold(w.Wrong) }

// Check returns the first error of a bench.
func Check(b api.Bench) api.Errno {
	if e := search.Check(b.Problem); e != api.OK {
		return e
	}
	if len(b.Witnesses) > api.MaxWitnesses || len(b.Accounts) > api.MaxAccounts {
		return api.ErrLimit
	}
	if e := checkWitnesses(b.Witnesses); e != api.OK {
		return e
	}
	if e := checkAccounts(b); e != api.OK {
		return e
	}
	ids := idsOf(b)
	if slices.ContainsFunc(b.Problem.Facts, func(f api.Fact) bool { return f.ID != 0 && !slices.Contains(ids, f.ID) }) {
		return api.ErrNone
	}
	return api.OK
}

func checkWitnesses(l []api.Witness) api.Errno {
	for i, w := range l {
		if !valid(w) {
			return api.ErrArg
		}
		if slices.ContainsFunc(l[:i], func(other api.Witness) bool { return other.ID == w.ID }) {
			return api.ErrTwice
		}
	}
	return api.OK
}

func checkAccounts(b api.Bench) api.Errno {
	records := recordsOf(b)
	for i, a := range b.Accounts {
		if !isID(a.ID) {
			return api.ErrArg
		}
		if _, is := records[a.Witness]; !is {
			return api.ErrNone
		}
		if slices.ContainsFunc(b.Accounts[:i], func(other api.Account) bool { return other.ID == a.ID }) {
			return api.ErrTwice
		}
	}
	return api.OK
}

// recordsOf returns the records of the witnesses, by their IDs.
func recordsOf(b api.Bench) map[int]api.Witness {
	records := make(map[int]api.Witness)
	for _, w := range b.Witnesses {
		records[w.ID] = w
	}
	return records
}

// idsOf returns the set of the IDs of all accounts.
func idsOf(b api.Bench) []int {
	var ids []int
	for _, a := range b.Accounts {
		ids = append(ids, a.ID)
	}
	slices.Sort(ids)
	return ids
}

// checkNamed returns the first error of a bench, then ErrArg unless some IDs are a set, then ErrNone unless all of them are IDs of accounts.
func checkNamed(b api.Bench, ids []int) api.Errno {
	if e := Check(b); e != api.OK {
		return e
	}
	if !isSet(ids) {
		return api.ErrArg
	}
	if !isPart(ids, idsOf(b)) {
		return api.ErrNone
	}
	return api.OK
}

// Worth returns the credit of a witness.
func Worth(w api.Witness) (int, api.Errno) {
	if !valid(w) {
		return 0, api.ErrArg
	}
	return worth(w), api.OK
}

func worth(w api.Witness) int { return api.Whole * (w.Right + 1) / (w.Right + w.Wrong + 2) }

// Weight returns the sum of the credits of some accounts.
func Weight(b api.Bench, ids []int) (int, api.Errno) {
	if e := checkNamed(b, ids); e != api.OK {
		return 0, e
	}
	return weight(b, ids), api.OK
}

func weight(b api.Bench, ids []int) int {
	records := recordsOf(b)
	sum := 0
	for _, a := range b.Accounts {
		if slices.Contains(ids, a.ID) {
			sum += worth(records[a.Witness])
		}
	}
	return sum
}

// Agree reports whether some accounts agree.
func Agree(b api.Bench, ids []int) (bool, api.Errno) {
	if e := checkNamed(b, ids); e != api.OK {
		return false, e
	}
	_, e := search.Solve(only(b, ids))
	if e == api.ErrClash {
		return false, api.OK
	}
	return e == api.OK, e
}

// only returns the problem of some accounts.
func only(b api.Bench, ids []int) api.Problem {
	p, _ := search.Only(b.Problem, ids)
	return p
}

// others returns the problem of all accounts but some.
func others(b api.Bench, ids []int) api.Problem { return only(b, minus(idsOf(b), ids)) }

// Without returns a bench without some accounts.
func Without(b api.Bench, ids []int) (api.Bench, api.Errno) {
	if e := checkNamed(b, ids); e != api.OK {
		return api.Bench{}, e
	}
	left := slices.DeleteFunc(slices.Clone(b.Accounts), func(a api.Account) bool { return slices.Contains(ids, a.ID) })
	return api.Bench{Witnesses: slices.Clone(b.Witnesses), Accounts: left, Problem: others(b, ids)}, api.OK
}

// Learn returns a bench in whose records some accounts were wrong, and all others right.
func Learn(b api.Bench, wrong []int) (api.Bench, api.Errno) {
	if e := checkNamed(b, wrong); e != api.OK {
		return api.Bench{}, e
	}
	records := recordsOf(b)
	for _, a := range b.Accounts {
		w := records[a.Witness]
		if slices.Contains(wrong, a.ID) {
			w.Wrong++
		} else {
			w.Right++
		}
		records[a.Witness] = w
	}
	whole, _ := search.Without(b.Problem, nil)
	learnt := api.Bench{Accounts: slices.Clone(b.Accounts), Problem: whole}
	for _, w := range b.Witnesses {
		w = records[w.ID]
		if !valid(w) {
			return api.Bench{}, api.ErrLimit
		}
		learnt.Witnesses = append(learnt.Witnesses, w)
	}
	return learnt, api.OK
}
