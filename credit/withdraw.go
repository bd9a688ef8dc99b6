package credit

import (
	"slices"

	"boundstone/api"
	"boundstone/search"
)

// checkTractable returns the first error of a bench, then ErrLimit if it is not tractable.
func checkTractable(b api.Bench) api.Errno {
	if e := Check(b); e != api.OK {
		return e
	}
	var empty [][]int
	for set := range parts(idsOf(b)) {
		if hasPart(empty, set) { // narrowing with more facts leaves nothing either
			continue
		}
		n, e := search.Volume(only(b, set))
		if e == api.ErrClash {
			empty = append(empty, set)
		}
		if n > api.MaxVolume {
			return api.ErrLimit
		}
	}
	return api.OK
}

// Contradictions returns all minimal sets of accounts that contradict each other.
func Contradictions(b api.Bench) ([][]int, api.Errno) {
	if e := checkTractable(b); e != api.OK {
		return nil, e
	}
	return contradictions(b), api.OK
}

// contradictions returns all minimal contradictions of a tractable bench, ordered.
func contradictions(b api.Bench) [][]int {
	var found [][]int
	var agreeing [][]int // sets of accounts of which a common solution was seen
	for set := range parts(idsOf(b)) {
		if hasPart(found, set) || hasWhole(agreeing, set) {
			continue
		}
		l, e := search.Solve(only(b, set))
		if e == api.OK {
			agreeing = append(agreeing, trueFor(b, l))
		} else {
			found = append(found, set) // its parts were looked at before
		}
	}
	return found
}

// trueFor returns the IDs of the accounts all of whose facts hold for points.
func trueFor(b api.Bench, l []api.Point) []int {
	var ids []int
	for _, id := range idsOf(b) {
		if !slices.ContainsFunc(b.Problem.Facts, func(f api.Fact) bool { return f.ID == id && !search.Holds(f, l) }) {
			ids = append(ids, id)
		}
	}
	return ids
}

// dispute is what a bench comes to.
type dispute struct {
	contradictions, withdrawals [][]int
	price                       int
	least                       [][]int
}

// settle returns what a bench comes to; the errors are that of Check, then ErrLimit if it is not tractable, then ErrClash if there is no withdrawal.
func settle(b api.Bench) (dispute, api.Errno) {
	if e := checkTractable(b); e != api.OK {
		return dispute{}, e
	}
	d := dispute{contradictions: contradictions(b)}
	d.withdrawals = hitting(d.contradictions)
	if len(d.withdrawals) == 0 {
		return dispute{}, api.ErrClash
	}
	d.price, d.least = cheapest(b, d.withdrawals)
	return d, api.OK
}

// cheapest returns the least sum of credits that one of some sets of accounts has, and the sets that have it.
func cheapest(b api.Bench, sets [][]int) (int, [][]int) {
	price := 0
	var least [][]int
	for _, set := range sets {
		n := weight(b, set)
		if len(least) == 0 || n < price {
			price, least = n, nil
		}
		if n == price {
			least = append(least, set)
		}
	}
	return price, least
}

// Withdrawals returns all minimal sets of accounts without which the others agree.
func Withdrawals(b api.Bench) ([][]int, api.Errno) {
	d, e := settle(b)
	return d.withdrawals, e
}

// Price returns the least credit of a withdrawal.
func Price(b api.Bench) (int, api.Errno) {
	d, e := settle(b)
	return d.price, e
}

// Least returns all withdrawals with the least credit.
func Least(b api.Bench) ([][]int, api.Errno) {
	d, e := settle(b)
	return d.least, e
}

// Blamed returns the accounts that all least withdrawals have, and those that some have.
func Blamed(b api.Bench) (all, some []int, e api.Errno) {
	d, e := settle(b)
	if e != api.OK {
		return nil, nil, e
	}
	some = elementsOf(d.least)
	for _, id := range some {
		if !slices.ContainsFunc(d.least, func(set []int) bool { return !slices.Contains(set, id) }) {
			all = append(all, id)
		}
	}
	return all, some, api.OK
}

// Judge returns whether something is so.
func Judge(b api.Bench, f api.Fact) (api.Verdict, api.Errno) {
	d, e := settle(b)
	if e != api.OK {
		return api.Verdict{}, e
	}
	var answers []api.Answer
	for _, set := range d.least {
		answer, e := search.Decide(others(b, set), f)
		if e != api.OK {
			return api.Verdict{}, e
		}
		answers = append(answers, answer)
	}
	v := api.Verdict{Every: answers[0], For: slices.Contains(answers, api.Yes), Against: slices.Contains(answers, api.No)}
	if len(slices.Compact(answers)) > 1 {
		v.Every = api.Open
	}
	return v, api.OK
}
