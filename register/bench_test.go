package register_test

import (
	"fmt"
	"slices"
	"testing"

	"boundstone/api"
	"boundstone/credit"
	"boundstone/register"
)

// north returns a walk of 1710 by a witness who chained the leg from the stone 1 to the stone 3.
func north(by, links int) api.Entry {
	return walked(by, 1710, leg(1, 3, api.North, 1710, links, 0))
}

func TestBench(t *testing.T) {
	r := enlarged(t, north(3, 402), walked(2, 1711), walked(2, 1710))
	b, e := register.Bench(r, 1710)
	if e != api.OK || !slices.Equal(b.Witnesses, r.Witnesses) || !slices.Equal(b.Accounts, []api.Account{{ID: 12, Witness: 1}, {ID: 1001, Witness: 3}, {ID: 1003, Witness: 2}}) || len(b.Problem.Boxes) != 3 || len(b.Problem.Facts) != 4 {
		t.Errorf("P9.5: Bench is %v, %d", b, e)
	}
	if want, _ := slowBench(r, 1710); !same(b, want) {
		t.Errorf("P9.5: Bench is %v, not %v", b, want)
	}
	for _, year := range []int{1700, 1712, 1650, 0, lastYear} {
		b, e := register.Bench(r, year)
		n := 3
		if year < 1700 || year > 1720 {
			n = 0
		}
		if e != api.OK || len(b.Witnesses) != 3 || len(b.Accounts) != 0 || len(b.Problem.Boxes) != n || len(b.Problem.Facts) != 0 {
			t.Errorf("P9.5: Bench of %d is %v, %d", year, b, e)
		}
	}
}

func TestErrorsOfBench(t *testing.T) {
	good := enlarged(t)
	nine := enlarged(t, slices.Repeat([]api.Entry{north(2, 400)}, 8)...)
	eight := enlarged(t, slices.Repeat([]api.Entry{north(2, 400)}, 7)...)
	late := enlarged(t, walked(1, 1721, leg(1, 3, -1, 1721, 400, 0))) // the stones are not present
	wide := enlarged(t, stone(4, 1700, box(0, 2000, 0, 0)))
	facts := enlarged(t, slices.Repeat([]api.Entry{walked(1, 1710, slices.Repeat([]api.Leg{leg(1, 3, api.North, 1710, 400, 0)}, 10)...)}, 3)...)
	moved := enlarged(t, stone(4, 1700, box(0, 0, 0, 0)), seen(4, 1720, box(1, 1, 0, 0)))
	for i, x := range []struct {
		r    api.Register
		year int
		want api.Errno
	}{
		{good, -1, api.ErrArg}, {good, lastYear + 1, api.ErrArg}, {good, 1710, api.OK},
		{nine, 1710, api.ErrLimit}, {nine, 1711, api.OK}, {eight, 1710, api.OK}, {late, 1721, api.ErrNone}, {late, 1720, api.OK},
		{wide, 1700, api.ErrRange}, {wide, 1701, api.OK}, {facts, 1710, api.ErrLimit}, {moved, 1710, api.ErrClash}, {moved, -1, api.ErrArg},
	} {
		b, e := register.Bench(x.r, x.year)
		if x.want == api.OK {
			if e != api.OK {
				t.Errorf("P9.5: Bench of the register %d in %d has the error %d", i, x.year, e)
			}
			continue
		}
		wantError(t, fmt.Sprintf("P9.5: Bench of the register %d", i), x.want, b, e)
		wantError(t, fmt.Sprintf("P9.5: Blamed of the register %d", i), x.want, all(register.Blamed(x.r, x.year))...)
		wantError(t, fmt.Sprintf("P9.5: Learn of the register %d", i), x.want, all(register.Learn(x.r, x.year))...)
		wantError(t, fmt.Sprintf("P9.6: Side of the register %d", i), x.want, all(register.Side(x.r, 4, x.year))...)
		wantError(t, fmt.Sprintf("P9.6: Side of no field of the register %d", i), api.ErrNone, all(register.Side(x.r, 99, x.year))...)
	}
}

// intractable returns a register with a walk of 1710 about two stones of which nearly nothing is known.
func intractable(t *testing.T) api.Register {
	t.Helper()
	huge := box(0, 1023, 0, 1023)
	return enlarged(t, stone(4, 1700, huge), seen(4, 1720, huge), stone(5, 1700, huge), seen(5, 1720, huge), walked(1, 1710, leg(4, 5, -1, 1710, 500, 90)))
}

func TestErrorsOfCredit(t *testing.T) {
	r := intractable(t)
	if b, e := register.Bench(r, 1710); e != api.OK || len(b.Accounts) != 2 {
		t.Errorf("P9.5: Bench of accounts that are not tractable is %v, %d", b, e)
	}
	wantError(t, "P9.5: Blamed of accounts that are not tractable", api.ErrLimit, all(register.Blamed(r, 1710))...)
	wantError(t, "P9.5: Learn of accounts that are not tractable", api.ErrLimit, all(register.Learn(r, 1710))...)
	wantError(t, "P9.6: Side of accounts that are not tractable", api.ErrLimit, all(register.Side(r, 4, 1710))...)
}

func TestBlamed(t *testing.T) {
	for i, x := range []struct {
		walks     []api.Entry
		all, some []int
	}{
		{nil, nil, nil},
		{[]api.Entry{north(1, 400), walked(2, 1710)}, nil, nil},
		{[]api.Entry{north(3, 402)}, []int{1001}, []int{1001}},
		{[]api.Entry{north(1, 402)}, nil, []int{12, 1001}},
		{[]api.Entry{north(1, 402), north(3, 402)}, []int{12}, []int{12}},
		{[]api.Entry{north(1, 402), north(3, 404)}, []int{1002}, []int{12, 1001, 1002}},
		{[]api.Entry{north(3, 300)}, []int{1001}, []int{1001}}, // it contradicts itself
		{[]api.Entry{walked(1, 1711, leg(1, 3, api.North, 1711, 402, 0))}, nil, nil},
	} {
		one, two, e := register.Blamed(enlarged(t, x.walks...), 1710)
		if e != api.OK || !slices.Equal(one, x.all) || !slices.Equal(two, x.some) {
			t.Errorf("P9.5: Blamed of the walks %d is %v, %v, %d, not %v, %v", i, one, two, e, x.all, x.some)
		}
	}
}

func TestLearn(t *testing.T) {
	for i, x := range []struct {
		walks []api.Entry
		year  int
		want  []api.Witness
	}{
		{nil, 1710, []api.Witness{{ID: 1, Right: 9}, {ID: 2}, {ID: 3, Wrong: 2}}},
		{nil, 1711, []api.Witness{{ID: 1, Right: 8}, {ID: 2}, {ID: 3, Wrong: 2}}},
		{[]api.Entry{north(3, 402), walked(2, 1710)}, 1710, []api.Witness{{ID: 1, Right: 9}, {ID: 2, Right: 1}, {ID: 3, Wrong: 3}}},
		{[]api.Entry{north(1, 402)}, 1710, []api.Witness{{ID: 1, Right: 10}, {ID: 2}, {ID: 3, Wrong: 2}}}, // only some least withdrawals have these
		{[]api.Entry{north(1, 402), north(3, 402)}, 1710, []api.Witness{{ID: 1, Right: 9, Wrong: 1}, {ID: 2}, {ID: 3, Right: 1, Wrong: 2}}},
	} {
		r := enlarged(t, x.walks...)
		want := plain(r)
		want.Witnesses = x.want
		if got, e := register.Learn(r, x.year); e != api.OK || !same(got, want) || register.Check(got) != api.OK {
			t.Errorf("P9.5: Learn of the walks %d is %v, %d, not %v", i, got, e, want)
		}
	}
	// All else stays, also what was refused.
	r := full()
	if got, e := register.Learn(r, 1710); e != api.OK || !slices.Equal(got.Refused, r.Refused) || !slices.Equal(got.Claims, r.Claims) || !same(got.Customs, r.Customs) || !same(got.Parish, r.Parish) {
		t.Errorf("P9.5: Learn of %v is %v, %d", r, got, e)
	}
}

func TestLearnAtTheLimit(t *testing.T) {
	for _, x := range []struct {
		w    api.Witness
		year int
		want api.Errno
	}{
		{api.Witness{ID: 1, Right: 9999}, 1710, api.OK}, {api.Witness{ID: 1, Right: 10000}, 1710, api.ErrLimit}, {api.Witness{ID: 1, Right: 10000}, 1711, api.OK}, {api.Witness{ID: 1, Wrong: 10000}, 1710, api.OK},
	} {
		r := enlarged(t)
		r.Witnesses[0] = x.w
		got, e := register.Learn(r, x.year)
		if x.want == api.OK && e == api.OK {
			got = api.Register{}
		}
		wantError(t, "P9.5: Learn at the limit", x.want, got, e)
	}
	if _, e := credit.Worth(api.Witness{ID: 1, Right: 10001}); e != api.ErrArg {
		t.Errorf("P7.1: the error of a record beyond the limit is %d", e)
	}
}
