package register

import (
	"slices"

	"boundstone/api"
)

// Effective returns the entries that count in a year, in order.
func Effective(l []api.Entered, known int) ([]api.Entered, api.Errno) {
	all, e := distinct(l)
	if e != api.OK {
		return nil, e
	}
	return counting(all, known), api.OK
}

// distinct returns what stands in a list of entries, each once, in order.
func distinct(l []api.Entered) ([]api.Entered, api.Errno) {
	if len(l) > 3*api.MaxEntries {
		return nil, api.ErrLimit
	}
	for _, x := range l {
		if x.Name.Vestry < api.Diocese || x.Name.Vestry > api.Outer || !isLine(x.Name.Line) {
			return nil, api.ErrArg
		}
		if e := CheckEntry(x.Entry); e != api.OK {
			return nil, e
		}
	}
	sorted := slices.SortedStableFunc(slices.Values(l), func(a, b api.Entered) int { return compareNames(a.Name, b.Name) })
	var all []api.Entered
	for _, x := range sorted {
		if last := len(all) - 1; last < 0 || all[last].Name != x.Name {
			all = append(all, x)
		} else if !sameEntry(all[last].Entry, x.Entry) {
			return nil, api.ErrTwice
		}
	}
	if len(all) > api.MaxEntries {
		return nil, api.ErrLimit
	}
	return all, api.OK
}

// counting returns those of some entries that count in a year, in new memory.
func counting(all []api.Entered, known int) []api.Entered {
	back := make(map[api.Name]bool) // what is taken back
	for _, x := range all {
		if x.Entry.Kind == api.EnBack && x.Entry.Written <= known {
			back[api.Name{Vestry: x.Name.Vestry, Line: x.Entry.Target.Line}] = true
		}
	}
	var l []api.Entered
	for _, x := range all {
		if x.Entry.Kind != api.EnBack && x.Entry.Written <= known && !back[x.Name] {
			l = append(l, api.Entered{Name: x.Name, Entry: copiedEntry(x.Entry)})
		}
	}
	return l
}
