package register

import (
	"slices"

	"boundstone/api"
	"boundstone/credit"
	"boundstone/custom"
	"boundstone/plane"
	"boundstone/walk"
)

// Check returns the first error of a register.
func Check(r api.Register) api.Errno {
	if e := walk.Check(r.Parish); e != api.OK {
		return e
	}
	if len(r.Witnesses) > api.MaxWitnesses || len(r.Told) > api.MaxWalks || len(r.Fields) > api.MaxFields || len(r.Paid) > api.MaxPaid || len(r.Claims) > api.MaxClaims {
		return api.ErrLimit
	}
	for _, check := range []func(r api.Register) api.Errno{checkWitnesses, checkTold, checkFields, checkPayments, checkCustoms, checkClaims} {
		if e := check(r); e != api.OK {
			return e
		}
	}
	return api.OK
}

func checkWitnesses(r api.Register) api.Errno {
	for i, w := range r.Witnesses {
		if _, e := credit.Worth(w); e != api.OK {
			return e
		}
		if hasWitness(r.Witnesses[:i], w.ID) {
			return api.ErrTwice
		}
	}
	return api.OK
}

func hasWitness(l []api.Witness, id int) bool {
	return slices.ContainsFunc(l, func(w api.Witness) bool { return w.ID == id })
}

func checkTold(r api.Register) api.Errno {
	for i, t := range r.Told {
		if !slices.ContainsFunc(r.Parish.Walks, func(w api.Walk) bool { return w.ID == t.Walk }) || !hasWitness(r.Witnesses, t.Witness) {
			return api.ErrNone
		}
		if isTold(r.Told[:i], t.Walk) {
			return api.ErrTwice
		}
	}
	if slices.ContainsFunc(r.Parish.Walks, func(w api.Walk) bool { return !isTold(r.Told, w.ID) }) {
		return api.ErrNone
	}
	return api.OK
}

func isTold(l []api.Told, walk int) bool {
	return slices.ContainsFunc(l, func(t api.Told) bool { return t.Walk == walk })
}

func checkFields(r api.Register) api.Errno {
	for i, f := range r.Fields {
		if e := checkField(r.Fields[:i], f); e != api.OK {
			return e
		}
	}
	return api.OK
}

// checkField returns the error of a field behind others.
func checkField(before []api.Field, f api.Field) api.Errno {
	if f.Number < 1 || f.Number > api.MaxField || !plane.Valid(f.At) || f.Pence < 0 || f.Pence > api.MaxPence {
		return api.ErrArg
	}
	if hasField(before, f.Number) {
		return api.ErrTwice
	}
	return api.OK
}

func hasField(l []api.Field, number int) bool {
	_, is := fieldOf(l, number)
	return is
}

// fieldOf returns the field with a number, and whether there is one.
func fieldOf(l []api.Field, number int) (api.Field, bool) {
	i := slices.IndexFunc(l, func(f api.Field) bool { return f.Number == number })
	if i < 0 {
		return api.Field{}, false
	}
	return l[i], true
}

func checkPayments(r api.Register) api.Errno {
	for _, p := range r.Paid {
		if e := checkPaid(r.Fields, p); e != api.OK {
			return e
		}
	}
	return api.OK
}

// checkPaid returns the error of a payment for one of some fields.
func checkPaid(l []api.Field, p api.Paid) api.Errno {
	if !hasField(l, p.Field) {
		return api.ErrNone
	}
	if !isYear(p.Year) || !isParish(p.Vestry) || p.Pence < 1 || p.Pence > api.MaxPence {
		return api.ErrArg
	}
	return api.OK
}

func checkCustoms(r api.Register) api.Errno {
	e, _ := custom.CheckCustoms(r.Customs)
	return e
}

func checkClaims(r api.Register) api.Errno {
	for i, c := range r.Claims {
		if e := checkClaim(c); e != api.OK {
			return e
		}
		if !hasField(r.Fields, c.Claim.Field) {
			return api.ErrNone
		}
		if slices.ContainsFunc(r.Claims[:i], func(before api.Claimed) bool { return before.ID == c.ID }) {
			return api.ErrTwice
		}
	}
	return api.OK
}

// checkClaim returns ErrArg unless the numbers of a claim can be right.
func checkClaim(c api.Claimed) api.Errno {
	if c.ID < 1 || c.ID > api.MaxID || !isParish(c.Vestry) || !isYear(c.Claim.Year) || !isYear(c.Claim.Until) || c.Holder != 0 && !isParish(c.Holder) {
		return api.ErrArg
	}
	return api.OK
}
