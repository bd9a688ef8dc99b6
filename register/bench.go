package register

import (
	"slices"

	"boundstone/api"
	"boundstone/credit"
	"boundstone/walk"
)

// Bench returns the walks of a year as accounts.
func Bench(r api.Register, year int) (api.Bench, api.Errno) {
	if e := Check(r); e != api.OK {
		return api.Bench{}, e
	}
	return bench(r, year)
}

// bench does what Bench does, for a valid register.
func bench(r api.Register, year int) (api.Bench, api.Errno) {
	p, e := walk.Problem(r.Parish, year)
	if e != api.OK {
		return api.Bench{}, e
	}
	b := api.Bench{Witnesses: slices.Clone(r.Witnesses), Problem: p}
	for _, w := range r.Parish.Walks {
		if w.Year == year {
			b.Accounts = append(b.Accounts, api.Account{ID: w.ID, Witness: witnessOf(r.Told, w.ID)})
		}
	}
	if e := credit.Check(b); e != api.OK {
		return api.Bench{}, e
	}
	return b, api.OK
}

// witnessOf returns the witness of a walk that has one.
func witnessOf(l []api.Told, walk int) int {
	i := slices.IndexFunc(l, func(t api.Told) bool { return t.Walk == walk })
	return l[i].Witness
}

// Blamed returns the walks of a year that all least withdrawals have, and those that some have.
func Blamed(r api.Register, year int) (all, some []int, e api.Errno) {
	b, e := Bench(r, year)
	if e != api.OK {
		return nil, nil, e
	}
	return credit.Blamed(b)
}

// Learn returns the register in whose records the walks of a year that are blamed were wrong, and the others right.
func Learn(r api.Register, year int) (api.Register, api.Errno) {
	b, e := Bench(r, year)
	if e != api.OK {
		return api.Register{}, e
	}
	wrong, _, e := credit.Blamed(b)
	if e != api.OK {
		return api.Register{}, e
	}
	learnt, e := credit.Learn(b, wrong)
	if e != api.OK {
		return api.Register{}, e
	}
	r = copied(r)
	r.Witnesses = learnt.Witnesses
	return r, api.OK
}

// copied returns a valid register in new memory.
func copied(r api.Register) api.Register {
	r.Parish, _ = walk.Without(r.Parish, nil)
	r.Witnesses, r.Told = slices.Clone(r.Witnesses), slices.Clone(r.Told)
	r.Fields, r.Paid = slices.Clone(r.Fields), slices.Clone(r.Paid)
	r.Customs = slices.Clone(r.Customs)
	for i, c := range r.Customs {
		r.Customs[i].Clauses = copiedClauses(c.Clauses)
	}
	r.Claims, r.Refused = slices.Clone(r.Claims), slices.Clone(r.Refused)
	return r
}

func copiedClauses(l []api.Clause) []api.Clause {
	l = slices.Clone(l)
	for i, c := range l {
		l[i].Head.Args = slices.Clone(c.Head.Args)
		l[i].Body = slices.Clone(c.Body)
		for j, b := range l[i].Body {
			l[i].Body[j].Atom.Args = slices.Clone(b.Atom.Args)
		}
	}
	return l
}
