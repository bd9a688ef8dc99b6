package register

import (
	"cmp"
	"slices"

	"boundstone/api"
)

func isYear(n int) bool { return n >= 0 && n <= api.MaxYear }

func isParish(vestry int) bool { return vestry == api.Inner || vestry == api.Outer }

func isLine(n int) bool { return n >= 1 && n <= api.MaxLines }

// CheckEntry returns the error of an entry.
func CheckEntry(e api.Entry) api.Errno {
	c := contentOf(e)
	if c == nil || !isYear(e.Written) || !isUnnumbered(e) || !isTargetFormed(e) || !isWalkOfOneYear(e.Walk) {
		return api.ErrArg
	}
	alone := api.Entry{Written: e.Written, Kind: e.Kind}
	c.fill(&alone)
	if !sameEntry(e, alone) {
		return api.ErrArg
	}
	return api.OK
}

// isUnnumbered reports whether what an entry says has no IDs yet: these come from the entry's name.
func isUnnumbered(e api.Entry) bool {
	return e.Proof.ID == 0 && e.Repair.ID == 0 && e.Sight.ID == 0 && e.Note.ID == 0 && e.Walk.ID == 0
}

func isTargetFormed(e api.Entry) bool {
	switch e.Kind {
	case api.EnAnswer, api.EnRuling, api.EnBack:
		return isLine(e.Target.Line)
	}
	return true
}

func isWalkOfOneYear(w api.Walk) bool {
	return !slices.ContainsFunc(w.Legs, func(l api.Leg) bool { return l.Measure.Year != w.Year })
}

// sameEntry reports whether two entries are the same.
func sameEntry(a, b api.Entry) bool {
	return slices.Equal(a.Ring, b.Ring) && slices.Equal(a.Walk.Legs, b.Walk.Legs) && slices.Equal(a.Walk.Offsets, b.Walk.Offsets) &&
		withoutLists(a) == withoutLists(b)
}

// plain is an entry without its lists.
type plain struct {
	written, kind, stone, changes, by, vestry, walk, year int

	chain   api.Chain
	proof   api.Proof
	repair  api.Repair
	habit   api.Habit
	sight   api.Sight
	note    api.Note
	witness api.Witness
	field   api.Field
	paid    api.Paid
	rule    api.Rule
	claim   api.Claim
	target  api.Name
}

func withoutLists(e api.Entry) plain {
	return plain{
		written: e.Written, kind: e.Kind, stone: e.Stone, changes: e.Changes, by: e.By, vestry: e.Vestry, walk: e.Walk.ID, year: e.Walk.Year,
		chain: e.Chain, proof: e.Proof, repair: e.Repair, habit: e.Habit, sight: e.Sight, note: e.Note,
		witness: e.Witness, field: e.Field, paid: e.Paid, rule: e.Rule, claim: e.Claim, target: e.Target,
	}
}

// copiedEntry returns an entry in new memory.
func copiedEntry(e api.Entry) api.Entry {
	e.Ring = slices.Clone(e.Ring)
	e.Walk.Legs, e.Walk.Offsets = slices.Clone(e.Walk.Legs), slices.Clone(e.Walk.Offsets)
	return e
}

// numberOf returns the number of an entry with a name.
func numberOf(n api.Name) int { return 1000*n.Vestry + n.Line }

// compareNames compares names in the order of entries.
func compareNames(a, b api.Name) int {
	return cmp.Or(cmp.Compare(a.Vestry, b.Vestry), cmp.Compare(a.Line, b.Line))
}
