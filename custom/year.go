package custom

import (
	"cmp"
	"slices"

	"boundstone/api"
)

func isYear(n int) bool { return n >= 0 && n <= api.MaxYear }

// isInForce reports whether a custom is in force in a year.
func isInForce(c api.Custom, year int) bool { return c.From <= year && year <= c.To }

// CheckCustoms returns the first error of customs, and an index.
func CheckCustoms(l []api.Custom) (api.Errno, int) {
	if len(l) > api.MaxCustoms {
		return api.ErrLimit, 0
	}
	last := 0
	for i, c := range l {
		switch e := checkCustom(c, last); e {
		case api.OK:
			last = c.ID
		case api.ErrLimit:
			return e, 0
		default:
			return e, i
		}
	}
	return checkYears(l), 0
}

// checkCustom returns the error of a custom behind one with the ID last (0: behind none).
func checkCustom(c api.Custom, last int) api.Errno {
	if c.ID < 1 || c.ID > api.MaxID || !isYear(c.From) || !isYear(c.To) || c.From > c.To {
		return api.ErrArg
	}
	if c.ID <= last {
		return api.ErrTwice
	}
	e, _ := Check(c.Clauses)
	return e
}

// checkYears returns the error of the first year in which the clauses in force have one; only the years in which customs begin matter, as fewer clauses have no other errors.
func checkYears(l []api.Custom) api.Errno {
	var years []int
	for _, c := range l {
		years = append(years, c.From)
	}
	slices.Sort(years)
	for _, year := range years {
		if _, e := checkStrata(inForce(l, year)); e != api.OK {
			return e
		}
	}
	return api.OK
}

// inForce returns the clauses of the customs that are in force in a year, which keep their memory.
func inForce(l []api.Custom, year int) []api.Clause {
	var clauses []api.Clause
	for _, c := range l {
		if isInForce(c, year) {
			clauses = append(clauses, c.Clauses...)
		}
	}
	return clauses
}

// checkCustomsAndYear returns the error of CheckCustoms, then ErrArg unless a number is a year.
func checkCustomsAndYear(l []api.Custom, year int) api.Errno {
	if e, _ := CheckCustoms(l); e != api.OK {
		return e
	}
	if !isYear(year) {
		return api.ErrArg
	}
	return api.OK
}

// Add returns customs with one more, in its place.
func Add(l []api.Custom, c api.Custom) ([]api.Custom, api.Errno) {
	if e, _ := CheckCustoms(l); e != api.OK {
		return nil, e
	}
	place, is := slices.BinarySearchFunc(l, c.ID, func(other api.Custom, id int) int { return cmp.Compare(other.ID, id) })
	if is {
		return nil, api.ErrTwice
	}
	longer := slices.Insert(slices.Clone(l), place, c)
	if e, _ := CheckCustoms(longer); e != api.OK {
		return nil, e
	}
	for i, other := range longer {
		longer[i].Clauses = copied(other.Clauses)
	}
	return longer, api.OK
}

// copied returns clauses in new memory.
func copied(l []api.Clause) []api.Clause {
	var clauses []api.Clause
	for _, c := range l {
		body := slices.Clone(c.Body)
		for i, b := range body {
			body[i].Atom = substituted(b.Atom, nil)
		}
		clauses = append(clauses, api.Clause{Head: substituted(c.Head, nil), Body: body})
	}
	return clauses
}

// InForce returns the clauses of all customs that are in force in a year.
func InForce(l []api.Custom, year int) ([]api.Clause, api.Errno) {
	if e := checkCustomsAndYear(l, year); e != api.OK {
		return nil, e
	}
	return copied(inForce(l, year)), api.OK
}

// Reach returns the years around a year in which the same customs are in force.
func Reach(l []api.Custom, year int) (api.Span, api.Errno) {
	if e := checkCustomsAndYear(l, year); e != api.OK {
		return api.Span{}, e
	}
	reach := api.Span{Lo: 0, Hi: api.MaxYear}
	for _, c := range l {
		// What is in force changes with the years From and To + 1.
		for _, change := range []int{c.From, c.To + 1} {
			if change <= year {
				reach.Lo = max(reach.Lo, change)
			} else {
				reach.Hi = min(reach.Hi, change-1)
			}
		}
	}
	return reach, api.OK
}
