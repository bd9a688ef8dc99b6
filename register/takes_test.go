package register_test

import (
	"fmt"
	"slices"
	"testing"

	"boundstone/api"
	"boundstone/register"
)

func wantAtoms(t *testing.T, r api.Register, number, year int, want string) {
	t.Helper()
	if l, e := register.Atoms(r, number, year); e != api.OK || texts(l) != want {
		t.Errorf("P9.7: Atoms of %d in %d is %q, %d, not %q", number, year, texts(l), e, want)
	}
}

func TestAtomsOfSides(t *testing.T) {
	r := enlarged(t)
	wantAtoms(t, r, 4, 1710, "field(4) side(4, 1) year(1710)")
	wantAtoms(t, r, 6, 1710, "field(6) side(6, 2) year(1710)")
	wantAtoms(t, r, 5, 1710, "field(5) open(5) year(1710)")
	wantAtoms(t, r, 4, 1699, "field(4) unknown(4) year(1699)")
	wantAtoms(t, r, 4, 0, "field(4) unknown(4) year(0)")
	wantAtoms(t, r, 6, lastYear, "field(6) unknown(6) year(4000)")
}

func TestAtomsOfPayments(t *testing.T) {
	for _, x := range []struct {
		paid []api.Entry
		want string
	}{
		{[]api.Entry{paid(4, 1709, 1, 1)}, "field(4) had(4, 1) side(4, 1) year(1710)"},
		{[]api.Entry{paid(4, 1709, 2, pence)}, "field(4) had(4, 2) side(4, 1) year(1710)"},
		{[]api.Entry{paid(4, 1709, 2, 5), paid(4, 1709, 1, 5)}, "field(4) side(4, 1) year(1710)"},
		{[]api.Entry{paid(4, 1709, 2, 5), paid(4, 1709, 1, 4), paid(4, 1709, 1, 2)}, "field(4) had(4, 1) side(4, 1) year(1710)"},
		{[]api.Entry{paid(4, 1709, 2, 5), paid(4, 1709, 1, 4), paid(4, 1709, 1, 2), paid(4, 1709, 2, 5)}, "field(4) had(4, 2) side(4, 1) year(1710)"},
		{[]api.Entry{paid(4, 1710, 1, 5), paid(4, 1708, 1, 5), paid(4, 1711, 1, 5), paid(6, 1709, 1, 5)}, "field(4) side(4, 1) year(1710)"},
	} {
		wantAtoms(t, enlarged(t, x.paid...), 4, 1710, x.want)
	}
	r := enlarged(t, paid(4, lastYear-1, 2, 5), paid(4, 0, 1, 5))
	wantAtoms(t, r, 4, 0, "field(4) unknown(4) year(0)")
	wantAtoms(t, r, 4, 1, "field(4) had(4, 1) unknown(4) year(1)")
	wantAtoms(t, r, 4, lastYear, "field(4) had(4, 2) unknown(4) year(4000)")
}

func TestAtomsOfClaims(t *testing.T) {
	c := func(id, vestry, number, year, holder int) api.Claimed {
		return api.Claimed{ID: id, Vestry: vestry, Claim: api.Claim{Field: number, Year: year, Until: 1700}, Holder: holder}
	}
	for _, x := range []struct {
		claims          []api.Claimed
		claimed, holder string // the atoms in 1710
	}{
		{nil, "", ""},
		{[]api.Claimed{c(1, 1, 4, 1710, 0)}, "claimed(4, 1) ", ""}, {[]api.Claimed{c(1, 2, 4, 0, 0)}, "claimed(4, 2) ", ""}, {[]api.Claimed{c(1, 1, 4, 1711, 0)}, "", ""}, {[]api.Claimed{c(1, 1, 6, 1700, 0)}, "", ""},
		{[]api.Claimed{c(1, 2, 4, 1700, 0), c(2, 1, 4, 1710, 0), c(3, 2, 4, 1701, 0), c(4, 1, 4, 1701, 0)}, "claimed(4, 1) claimed(4, 2) ", ""},
		{[]api.Claimed{c(1, 1, 4, 1710, 1)}, "", "holder(4, 1) "}, {[]api.Claimed{c(1, 1, 4, 1710, 2)}, "", "holder(4, 2) "}, {[]api.Claimed{c(1, 1, 4, 1711, 2)}, "", ""}, {[]api.Claimed{c(1, 1, 6, 1700, 2)}, "", ""},
		{[]api.Claimed{c(1, 1, 4, 1700, 2), c(2, 2, 4, 1701, 0)}, "claimed(4, 2) ", "holder(4, 2) "},
		// The greatest year, of several the greatest ID; those that are open, later, or of another field do not matter.
		{[]api.Claimed{c(1, 1, 4, 1702, 2), c(2, 1, 4, 1701, 1)}, "", "holder(4, 2) "}, {[]api.Claimed{c(2, 1, 4, 1701, 1), c(1, 1, 4, 1702, 2)}, "", "holder(4, 2) "},
		{[]api.Claimed{c(1, 1, 4, 1702, 2), c(2, 1, 4, 1702, 1)}, "", "holder(4, 1) "}, {[]api.Claimed{c(2, 1, 4, 1702, 1), c(1, 1, 4, 1702, 2)}, "", "holder(4, 1) "},
		{[]api.Claimed{c(1, 1, 4, 1702, 2), c(2, 1, 4, 1710, 1), c(3, 1, 4, 1711, 2), c(4, 1, 6, 1710, 2)}, "", "holder(4, 1) "},
		{[]api.Claimed{c(1, 1, 4, 0, 2)}, "", "holder(4, 2) "},
		{[]api.Claimed{c(1, 1, 4, 1702, 2), c(2, 1, 4, 1705, 0)}, "claimed(4, 1) ", "holder(4, 2) "},
		{[]api.Claimed{c(1, 2, 4, 1702, 1), c(7, 2, 4, 1702, 2), c(3, 1, 4, 1702, 1)}, "", "holder(4, 2) "},
	} {
		r := enlarged(t)
		r.Claims = x.claims
		wantAtoms(t, r, 4, 1710, x.claimed+"field(4) "+x.holder+"side(4, 1) year(1710)")
	}
}

func TestErrorsOfAtoms(t *testing.T) {
	r := enlarged(t)
	for _, number := range []int{0, 1, -4, lastField, 1 << 60} {
		for _, year := range []int{1710, -1, lastYear + 1} {
			for what, results := range map[string][]any{"P9.7: Atoms": all(register.Atoms(r, number, year)), "P9.8: Takes": all(register.Takes(r, number, year)), "P9.8: Rests": all(register.Rests(r, number, year)),
				"P9.9: Holds": all(register.Holds(r, nil, 1, number, year)), "P9.11: Needs": all(register.Needs(land(), 1700, number, year))} {
				wantError(t, what+" of no field", api.ErrNone, results...)
			}
		}
	}
	for _, year := range []int{-1, lastYear + 1, 1 << 62, -1 << 62} {
		for what, results := range map[string][]any{"P9.7: Atoms": all(register.Atoms(r, 4, year)), "P9.8: Takes": all(register.Takes(r, 4, year)), "P9.8: Rests": all(register.Rests(r, 4, year)), "P9.8: Clauses": all(register.Clauses(r, year)),
			"P9.9: Dues": all(register.Dues(r, year)), "P9.9: Holds": all(register.Holds(r, nil, 1, 4, year)), "P9.11: Needs": all(register.Needs(land(), 1700, 4, year))} {
			wantError(t, what+" in no year", api.ErrArg, results...)
		}
	}
	wantError(t, "P9.11: Needs as nothing is known", api.ErrNone, all(register.Needs(land(), 1699, 4, 1710))...)
}

func TestClauses(t *testing.T) {
	r := enlarged(t, rule(1700, 1709, "takes(F, 1) if field(F)."), rule(1705, 1720, "takes(F, 2) if open(F). p."), rule(1730, 1740, "# nothing"))
	for _, x := range []struct {
		year int
		want string
	}{
		{1699, usual}, {1700, "takes(F, 1) if field(F)."}, {1705, "takes(F, 1) if field(F). takes(F, 2) if open(F). p."}, {1709, "takes(F, 1) if field(F). takes(F, 2) if open(F). p."}, {1710, "takes(F, 2) if open(F). p."}, {1720, "takes(F, 2) if open(F). p."}, {1721, usual}, {0, usual}, {lastYear, usual},
		{1735, usual}, // a custom is in force, but no clause
	} {
		if l, e := register.Clauses(r, x.year); e != api.OK || !same(l, clauses(x.want)) {
			t.Errorf("P9.8: Clauses in %d is %v, %d, not %q", x.year, l, e, x.want)
		}
	}
}

func TestTakes(t *testing.T) {
	for i, x := range []struct {
		more         []api.Entry
		number, year int
		want         takes
	}{
		// Without customs: by the side, what was had, and claims.
		{nil, 4, 1710, takes{1, api.OK}}, {nil, 6, 1710, takes{2, api.OK}}, {nil, 5, 1710, takes{0, api.ErrNone}}, {nil, 4, 1699, takes{0, api.ErrNone}},
		{[]api.Entry{paid(5, 1709, 2, 5)}, 5, 1710, takes{2, api.OK}}, {[]api.Entry{paid(5, 1709, 1, 5)}, 5, 1710, takes{1, api.OK}}, {[]api.Entry{paid(5, 1708, 1, 5)}, 5, 1710, takes{0, api.ErrNone}}, {[]api.Entry{paid(4, 1709, 2, 5)}, 4, 1710, takes{1, api.OK}},
		{[]api.Entry{paid(4, 1698, 2, 5)}, 4, 1699, takes{0, api.ErrNone}}, // unknown is not open
		{[]api.Entry{claim(6, 1702, 1699)}, 6, 1710, takes{1, api.OK}}, {[]api.Entry{claim(6, 1702, 1699)}, 6, 1701, takes{2, api.OK}}, {[]api.Entry{claim(6, 1702, 1699)}, 6, 1702, takes{1, api.OK}}, {[]api.Entry{claim(6, 1702, 1700)}, 6, 1710, takes{2, api.OK}},
		{[]api.Entry{claim(5, 1702, 1699), paid(5, 1709, 2, 5)}, 5, 1710, takes{1, api.OK}}, {[]api.Entry{claim(6, 1702, 1699)}, 6, 1730, takes{1, api.OK}},
		// By customs.
		{[]api.Entry{rule(1710, 1710, "takes(4, 2).")}, 4, 1710, takes{2, api.OK}}, {[]api.Entry{rule(1710, 1710, "takes(4, 2).")}, 6, 1710, takes{0, api.ErrNone}}, {[]api.Entry{rule(1710, 1710, "takes(4, 2).")}, 4, 1711, takes{1, api.OK}},
		{[]api.Entry{rule(1710, 1710, "takes(4, 2). takes(F, 1) if side(F, 1).")}, 4, 1710, takes{0, api.ErrClash}}, {[]api.Entry{rule(1710, 1710, "takes(4, 1). takes(F, 1) if side(F, 1).")}, 4, 1710, takes{1, api.OK}},
		{[]api.Entry{rule(1710, 1710, "takes(4, 0).")}, 4, 1710, takes{0, api.ErrClash}}, {[]api.Entry{rule(1710, 1710, "takes(4, 3).")}, 4, 1710, takes{0, api.ErrClash}}, {[]api.Entry{rule(1710, 1710, "takes(4, -1).")}, 4, 1710, takes{0, api.ErrClash}}, {[]api.Entry{rule(1710, 1710, "takes(4, inner).")}, 4, 1710, takes{0, api.ErrClash}},
		{[]api.Entry{rule(1710, 1710, "takes(4). takes(4, 1, 1). takes(5, 1). take(4, 1).")}, 4, 1710, takes{0, api.ErrNone}}, {[]api.Entry{rule(1710, 1710, "takes(4, 1). takes(4, oak).")}, 4, 1710, takes{0, api.ErrClash}}, {[]api.Entry{rule(1710, 1710, "takes(four, 1).")}, 4, 1710, takes{0, api.ErrNone}},
		{[]api.Entry{rule(1710, 1710, "takes(F, 1) if year(1710), field(F).")}, 6, 1710, takes{1, api.OK}}, {[]api.Entry{rule(1700, 1710, "takes(F, 1) if unknown(F). takes(F, 2) if claimed(F, 1).")}, 4, 1710, takes{0, api.ErrNone}},
		{[]api.Entry{rule(1690, 1710, "takes(F, 1) if unknown(F).")}, 4, 1699, takes{1, api.OK}}, {[]api.Entry{rule(1690, 1710, "takes(F, 2) if claimed(F, 1)."), claim(4, 1700, 1705)}, 4, 1710, takes{2, api.OK}},
		{[]api.Entry{rule(1710, 1710, "d(1). d(2). d(3). d(4). d(5). d(6). d(7). e(X, Y, Z) if d(X), d(Y), d(Z). takes(4, 1).")}, 4, 1710, takes{0, api.ErrLimit}},
	} {
		r := enlarged(t, x.more...)
		vestry, e := register.Takes(r, x.number, x.year)
		if (takes{vestry, e}) != x.want || x.want != slowTakes(r, x.number, x.year) {
			t.Errorf("P9.8: Takes of %d in %d of the register %d is %d, %d, not %v", x.number, x.year, i, vestry, e, x.want)
		}
	}
}

func TestTakesOfTheExamples(t *testing.T) {
	l := with(land(), entered(api.Inner, 2, 1701, claim(4, 1702, 1705)))
	ruled := with(l, entered(api.Diocese, 90, 1706, ruling(1, 2, 2)))
	for _, x := range []struct {
		l                  []api.Entered
		known, year, takes int
	}{{l, 1705, 1710, 1}, {ruled, 1706, 1710, 2}, {ruled, 1706, 1702, 2}, {ruled, 1706, 1701, 1}, {ruled, 1705, 1710, 1}} {
		if v, e := register.Takes(folded(t, x.l, x.known), 4, x.year); v != x.takes || e != api.OK {
			t.Errorf("P9.8: Takes in %d, as known in %d, is %d, %d, not %d", x.year, x.known, v, e, x.takes)
		}
	}
}

func TestRests(t *testing.T) {
	one, two, same := rule(1700, 1719, "takes(F, 2) if field(F)."), rule(1710, 1710, "takes(F, 1) if open(F)."), rule(1700, 1719, "takes(F, 2) if field(F). p.")
	for i, x := range []struct {
		more         []api.Entry
		number, year int
		want         []int
	}{
		{nil, 4, 1710, nil},
		{[]api.Entry{one}, 4, 1710, []int{1001}}, {[]api.Entry{one}, 6, 1710, nil}, {[]api.Entry{one}, 4, 1720, nil}, {[]api.Entry{one}, 5, 1710, []int{1001}},
		{[]api.Entry{one, same}, 4, 1710, nil}, {[]api.Entry{same, one}, 5, 1710, nil},
		{[]api.Entry{one, two}, 5, 1710, []int{1001, 1002}}, {[]api.Entry{one, two}, 5, 1711, []int{1001}}, {[]api.Entry{one, two}, 4, 1710, []int{1001}},
		{[]api.Entry{one, same, two}, 5, 1710, []int{1003}}, // without it, there is no clash
		{[]api.Entry{two}, 4, 1710, []int{1001}},            // without it, the usual clauses are in force
		{[]api.Entry{two}, 4, 1699, nil},
		{[]api.Entry{rule(1700, 1720, "q."), two}, 6, 1710, nil}, {[]api.Entry{rule(1700, 1720, "q."), two}, 5, 1710, []int{1002}},
		{[]api.Entry{rule(1700, 1720, "")}, 6, 1710, nil},
	} {
		if ids, e := register.Rests(enlarged(t, x.more...), x.number, x.year); e != api.OK || !slices.Equal(ids, x.want) {
			t.Errorf("P9.8: Rests of %d in %d of the register %d is %v, %d, not %v", x.number, x.year, i, ids, e, x.want)
		}
	}
}

func TestAnswersOfTheFullRegister(t *testing.T) {
	r, n := full(), tally{}
	for _, f := range append(r.Fields, api.Field{Number: 1}) {
		for _, year := range []int{1699, 1700, 1709, 1710, 1711, 1714, 1715, 1719, 1720, 1725, 1726} {
			t.Run(fmt.Sprint(f.Number, " ", year), func(t *testing.T) { checkAll(t, r, f.Number, year, n) })
		}
	}
}
