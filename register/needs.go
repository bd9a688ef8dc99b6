package register

import (
	"slices"

	"boundstone/api"
)

// Moved returns the fields whose tithe another vestry takes in some of the years, by another register.
func Moved(a, b api.Register, years api.Span) ([]int, api.Errno) {
	for _, r := range []api.Register{a, b} {
		if e := Check(r); e != api.OK {
			return nil, e
		}
	}
	if e := checkYears(years); e != api.OK {
		return nil, e
	}
	m := new(memory)
	var moved []int
	for year := range yearsOf(years) {
		one, two := m.view(a, year), m.view(b, year)
		for _, f := range slices.Concat(a.Fields, b.Fields) {
			if !slices.Contains(moved, f.Number) && one.taken(f.Number) != two.taken(f.Number) {
				moved = append(moved, f.Number)
			}
		}
	}
	slices.Sort(moved)
	return moved, api.OK
}

// Needs returns the entries without each of which a field's tithe would go elsewhere.
func Needs(l []api.Entered, known, field, year int) ([]api.Name, api.Errno) {
	some, e := Effective(l, known)
	if e != api.OK {
		return nil, e
	}
	r := fold(some, known)
	if e := checkFieldAndYear(r, field, year); e != api.OK { // what is folded is valid
		return nil, e
	}
	m := new(memory)
	taken := m.view(r, year).taken(field)
	var names []api.Name
	for i, x := range some {
		less := fold(slices.Delete(slices.Clone(some), i, i+1), known)
		if m.view(less, year).taken(field) != taken {
			names = append(names, x.Name)
		}
	}
	return names, api.OK
}
