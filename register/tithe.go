package register

import (
	"cmp"
	"iter"
	"slices"

	"boundstone/api"
)

// Dues returns what is due for all fields in a year.
func Dues(r api.Register, year int) ([]api.Due, api.Errno) {
	if e := Check(r); e != api.OK {
		return nil, e
	}
	if !isYear(year) {
		return nil, api.ErrArg
	}
	return viewOf(r, year).dues(), api.OK
}

// dues returns what is due for each field, by number.
func (v view) dues() []api.Due {
	fields := slices.SortedFunc(slices.Values(v.Fields), func(a, b api.Field) int { return cmp.Compare(a.Number, b.Number) })
	var l []api.Due
	for _, f := range fields {
		t := v.taken(f.Number)
		due := api.Due{Field: f.Number, Vestry: t.vestry, Err: t.wrong}
		if due.Err == api.OK {
			due.Pence = f.Pence
		}
		l = append(l, due)
	}
	return l
}

// yearsOf yields the years of a span.
func yearsOf(s api.Span) iter.Seq[int] {
	return func(yield func(year int) bool) {
		for year := s.Lo; year <= s.Hi; year++ {
			if !yield(year) {
				return
			}
		}
	}
}

// checkYears returns the error of years that are to be looked at.
func checkYears(s api.Span) api.Errno {
	if s.Lo > s.Hi || !isYear(s.Lo) || !isYear(s.Hi) {
		return api.ErrArg
	}
	if s.Hi-s.Lo >= api.MaxYears {
		return api.ErrLimit
	}
	return api.OK
}

// Transfers returns what has to be moved so that each vestry holds what is due to it.
func Transfers(r api.Register, years api.Span) ([]api.Transfer, api.Errno) {
	if e := Check(r); e != api.OK {
		return nil, e
	}
	if e := checkYears(years); e != api.OK {
		return nil, e
	}
	var l []api.Transfer
	m := new(memory)
	for year := range yearsOf(years) {
		for _, due := range m.view(r, year).dues() {
			if due.Err == api.OK {
				l = append(l, transfers(r.Paid, due, year)...)
			}
		}
	}
	return l, api.OK
}

// transfers returns what has to be moved for what is due in a year, by what was paid.
func transfers(l []api.Paid, due api.Due, year int) []api.Transfer {
	var moved []api.Transfer
	move := func(from, to, pence int) {
		if pence > 0 {
			moved = append(moved, api.Transfer{Field: due.Field, Year: year, From: from, To: to, Pence: pence})
		}
	}
	vestry, rest := due.Vestry, other(due.Vestry)
	right, wrong := paidTo(l, vestry, due.Field, year), paidTo(l, rest, due.Field, year)
	move(rest, vestry, wrong)
	move(0, vestry, due.Pence-right-wrong)
	move(vestry, 0, right+wrong-due.Pence)
	return moved
}

// Holds returns what a vestry holds for a field and a year, behind transfers.
func Holds(r api.Register, l []api.Transfer, vestry, field, year int) (int, api.Errno) {
	if e := Check(r); e != api.OK {
		return 0, e
	}
	if !isParish(vestry) {
		return 0, api.ErrArg
	}
	if e := checkFieldAndYear(r, field, year); e != api.OK {
		return 0, e
	}
	if len(l) > 3*api.MaxFields*api.MaxYears {
		return 0, api.ErrLimit
	}
	if slices.ContainsFunc(l, func(t api.Transfer) bool { return t.Pence < 0 || t.Pence > api.MaxPence*api.MaxPaid }) {
		return 0, api.ErrRange
	}
	sum := paidTo(r.Paid, vestry, field, year)
	for _, t := range l {
		if t.Field != field || t.Year != year {
			continue
		}
		if t.To == vestry {
			sum += t.Pence
		}
		if t.From == vestry {
			sum -= t.Pence
		}
	}
	return sum, api.OK
}
