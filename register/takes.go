package register

import (
	"cmp"
	"slices"

	"boundstone/api"
	"boundstone/custom"
)

// byDefault is by which clauses tithes are taken if no custom is in force.
const byDefault = `
takes(F, V) if holder(F, V).
held(F) if holder(F, V).
takes(F, V) if side(F, V), not held(F).
takes(F, V) if open(F), had(F, V), not held(F).
`

// checkAsked returns the first error of a register, then that of checkFieldAndYear.
func checkAsked(r api.Register, field, year int) api.Errno {
	if e := Check(r); e != api.OK {
		return e
	}
	return checkFieldAndYear(r, field, year)
}

// checkFieldAndYear returns ErrNone if a register has no such field, then ErrArg unless a number is a year.
func checkFieldAndYear(r api.Register, field, year int) api.Errno {
	if !hasField(r.Fields, field) {
		return api.ErrNone
	}
	if !isYear(year) {
		return api.ErrArg
	}
	return api.OK
}

// Atoms returns what customs are told of a field in a year.
func Atoms(r api.Register, field, year int) ([]api.Atom, api.Errno) {
	if e := checkAsked(r, field, year); e != api.OK {
		return nil, e
	}
	return viewOf(r, year).atoms(field), api.OK
}

// atom returns an atom whose terms are numbers.
func atom(pred string, numbers ...int) api.Atom {
	a := api.Atom{Pred: pred}
	for _, n := range numbers {
		a.Args = append(a.Args, api.Term{Kind: api.TeNumber, N: n})
	}
	return a
}

// atoms does what Atoms does, for a field of the register.
func (v view) atoms(field int) []api.Atom {
	l := []api.Atom{atom("field", field), atom("year", v.year), v.sideAtom(field)}
	if holder := v.holder(field); holder != 0 {
		l = append(l, atom("holder", field, holder))
	}
	for _, vestry := range []int{api.Inner, api.Outer} {
		if v.isClaimed(field, vestry) {
			l = append(l, atom("claimed", field, vestry))
		}
		if paidTo(v.Paid, vestry, field, v.year-1) > paidTo(v.Paid, other(vestry), field, v.year-1) {
			l = append(l, atom("had", field, vestry))
		}
	}
	slices.SortFunc(l, custom.Compare)
	return l
}

func (v view) sideAtom(field int) api.Atom {
	f, _ := fieldOf(v.Fields, field)
	switch answer, e := v.side(f.At); {
	case e != api.OK:
		return atom("unknown", field)
	case answer == api.Yes:
		return atom("side", field, api.Inner)
	case answer == api.No:
		return atom("side", field, api.Outer)
	}
	return atom("open", field)
}

// holder returns the vestry whose a field is by the latest one of the claims that were settled; 0 if there is none.
func (v view) holder(field int) int {
	var last api.Claimed // no claim is ahead of it
	for _, c := range v.Claims {
		if c.Claim.Field == field && c.Holder != 0 && c.Claim.Year <= v.year && cmp.Or(cmp.Compare(c.Claim.Year, last.Claim.Year), cmp.Compare(c.ID, last.ID)) > 0 {
			last = c
		}
	}
	return last.Holder
}

// isClaimed reports whether a vestry has made a claim of a field that is not settled.
func (v view) isClaimed(field, vestry int) bool {
	return slices.ContainsFunc(v.Claims, func(c api.Claimed) bool {
		return c.Claim.Field == field && c.Vestry == vestry && c.Holder == 0 && c.Claim.Year <= v.year
	})
}

// paidTo returns the pence that were paid to a vestry for a field and a year.
func paidTo(l []api.Paid, vestry, field, year int) int {
	sum := 0
	for _, p := range l {
		if p.Vestry == vestry && p.Field == field && p.Year == year {
			sum += p.Pence
		}
	}
	return sum
}

// Clauses returns the clauses by which tithes are taken in a year.
func Clauses(r api.Register, year int) ([]api.Clause, api.Errno) {
	if e := Check(r); e != api.OK {
		return nil, e
	}
	if !isYear(year) {
		return nil, api.ErrArg
	}
	return clausesOf(r.Customs, year), api.OK
}

// clausesOf returns the clauses by which tithes are taken in a year by valid customs.
func clausesOf(l []api.Custom, year int) []api.Clause {
	clauses, _ := custom.InForce(l, year)
	if len(clauses) == 0 {
		clauses, _, _ = custom.Parse(byDefault)
	}
	return clauses
}

// taken is which vestry takes a tithe, or why none does.
type taken struct {
	vestry int
	wrong  api.Errno
}

// Takes returns the vestry that takes the tithe of a field in a year.
func Takes(r api.Register, field, year int) (int, api.Errno) {
	if e := checkAsked(r, field, year); e != api.OK {
		return 0, e
	}
	t := viewOf(r, year).taken(field)
	return t.vestry, t.wrong
}

// taken returns which vestry takes the tithe of a field; the error is ErrNone if there is no such field.
func (v view) taken(field int) taken {
	if !hasField(v.Fields, field) {
		return taken{wrong: api.ErrNone}
	}
	return takenBy(clausesOf(v.Customs, v.year), v.atoms(field), field)
}

// takenBy returns which vestry takes the tithe of a field by some clauses.
func takenBy(l []api.Clause, atoms []api.Atom, field int) taken {
	pattern := atom("takes", field)
	pattern.Args = append(pattern.Args, api.Term{Kind: api.TeVar, S: "X"})
	found, e := custom.Ask(l, atoms, pattern)
	if e != api.OK {
		return taken{wrong: e}
	}
	if len(found) == 0 {
		return taken{wrong: api.ErrNone}
	}
	if vestry := found[0].Args[1]; len(found) == 1 && vestry.Kind == api.TeNumber && isParish(vestry.N) {
		return taken{vestry: vestry.N}
	}
	return taken{wrong: api.ErrClash}
}

// Rests returns the customs on which this rests.
func Rests(r api.Register, field, year int) ([]int, api.Errno) {
	if e := checkAsked(r, field, year); e != api.OK {
		return nil, e
	}
	atoms := viewOf(r, year).atoms(field)
	with := takenBy(clausesOf(r.Customs, year), atoms, field)
	var ids []int
	for i, c := range r.Customs {
		others := slices.Delete(slices.Clone(r.Customs), i, i+1)
		if takenBy(clausesOf(others, year), atoms, field) != with {
			ids = append(ids, c.ID)
		}
	}
	return ids, api.OK
}
