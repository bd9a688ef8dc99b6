package chainage

import (
	"cmp"
	"slices"

	"boundstone/api"
)

// Check returns the first error of works.
func Check(w api.Works) api.Errno {
	if tooMany(w) {
		return api.ErrLimit
	}
	if e := checkChains(w.Chains); e != api.OK {
		return e
	}
	ids := idsOf(w)
	for i, p := range w.Proofs {
		if !validProof(w, p) {
			return api.ErrArg
		}
		if slices.Contains(ids[:i], p.ID) {
			return api.ErrTwice
		}
	}
	for i, r := range w.Repairs {
		if !validRepair(w, r) {
			return api.ErrArg
		}
		if slices.Contains(ids[:len(w.Proofs)+i], r.ID) || repaired(w.Repairs[:i], r) {
			return api.ErrTwice
		}
	}
	return api.OK
}

func tooMany(w api.Works) bool {
	return len(w.Chains) > api.MaxChains || len(w.Proofs)+len(w.Repairs) > api.MaxProofs
}

func checkChains(l []api.Chain) api.Errno {
	for i, c := range l {
		if !validChain(c) {
			return api.ErrArg
		}
		if _, is := chainOf(l[:i], c.ID); is {
			return api.ErrTwice
		}
	}
	return api.OK
}

func validID(id int) bool { return id >= 1 && id <= api.MaxID }

func validLong(s api.Span) bool {
	return inside(s, api.Span{Lo: api.MinLong, Hi: api.MaxLong})
}

func validChain(c api.Chain) bool {
	return validID(c.ID) && within(api.Span{Hi: api.MaxYear}, c.Year) && validLong(c.Made) && within(api.Span{Hi: api.MaxWear}, c.Wear)
}

func validProof(w api.Works, p api.Proof) bool {
	c, is := chainOf(w.Chains, p.Chain)
	return is && validID(p.ID) && within(yearsOf(c), p.Year) && validLong(p.Long)
}

func validRepair(w api.Works, r api.Repair) bool {
	c, is := chainOf(w.Chains, r.Chain)
	return is && validID(r.ID) && within(yearsOf(c), r.Year) && r.Year > c.Year && validLong(r.Made)
}

func chainOf(l []api.Chain, id int) (api.Chain, bool) {
	i := slices.IndexFunc(l, func(c api.Chain) bool { return c.ID == id })
	if i < 0 {
		return api.Chain{}, false
	}
	return l[i], true
}

// yearsOf returns the years in which there is a chain.
func yearsOf(c api.Chain) api.Span { return api.Span{Lo: c.Year, Hi: api.MaxYear} }

// repaired reports whether there is a repair of the same chain in the same year among some.
func repaired(l []api.Repair, r api.Repair) bool {
	return slices.ContainsFunc(l, func(other api.Repair) bool {
		return other.Chain == r.Chain && other.Year == r.Year
	})
}

// idsOf returns the IDs of the proofs, then those of the repairs.
func idsOf(w api.Works) []int {
	var ids []int
	for _, p := range w.Proofs {
		ids = append(ids, proofID(p))
	}
	for _, r := range w.Repairs {
		ids = append(ids, repairID(r))
	}
	return ids
}

func chainID(c api.Chain) int   { return c.ID }
func proofID(p api.Proof) int   { return p.ID }
func repairID(r api.Repair) int { return r.ID }

// Without returns works without some proofs and repairs.
func Without(w api.Works, ids []int) (api.Works, api.Errno) {
	if e := Check(w); e != api.OK {
		return api.Works{}, e
	}
	if slices.ContainsFunc(ids, func(id int) bool { return !validID(id) }) {
		return api.Works{}, api.ErrArg
	}
	return without(w, ids...), api.OK
}

func without(w api.Works, ids ...int) api.Works {
	return api.Works{
		Chains:  slices.Clone(w.Chains),
		Proofs:  others(w.Proofs, proofID, ids),
		Repairs: others(w.Repairs, repairID, ids),
	}
}

// others returns what does not have one of some IDs.
func others[T any](l []T, idOf func(T) int, ids []int) []T {
	return slices.DeleteFunc(slices.Clone(l), func(x T) bool { return slices.Contains(ids, idOf(x)) })
}

// Merge returns the works of two lists, each thing once.
func Merge(a, b api.Works) (api.Works, api.Errno) {
	if e := Check(a); e != api.OK {
		return api.Works{}, e
	}
	if e := Check(b); e != api.OK {
		return api.Works{}, e
	}
	w := api.Works{
		Chains:  united(a.Chains, b.Chains, chainID),
		Proofs:  united(a.Proofs, b.Proofs, proofID),
		Repairs: united(a.Repairs, b.Repairs, repairID),
	}
	if hasTwice(w) {
		return api.Works{}, api.ErrTwice
	}
	if tooMany(w) {
		return api.Works{}, api.ErrLimit
	}
	return w, api.OK
}

// united returns what two lists have, by ID. What both have stands there once, since neither list has an ID twice.
func united[T comparable](a, b []T, idOf func(T) int) []T {
	l := slices.Concat(a, b)
	slices.SortFunc(l, func(x, y T) int { return cmp.Compare(idOf(x), idOf(y)) })
	return slices.Compact(l)
}

// hasTwice reports whether different things of works have the same ID, or different repairs of a chain the same year.
func hasTwice(w api.Works) bool {
	for i, c := range w.Chains {
		if _, is := chainOf(w.Chains[:i], c.ID); is {
			return true
		}
	}
	ids := idsOf(w)
	for i, id := range ids {
		if slices.Contains(ids[:i], id) {
			return true
		}
	}
	for i, r := range w.Repairs {
		if repaired(w.Repairs[:i], r) {
			return true
		}
	}
	return false
}
