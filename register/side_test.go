package register_test

import (
	"testing"

	"boundstone/api"
	"boundstone/register"
)

func TestSide(t *testing.T) {
	// The stone 3 lies at (0, 400) by the walk of the witness 1; the fields 7 and 8 lie inside only if it lies farther north, or south.
	at7, at8 := field(7, 1, 400, 5), field(8, 2, 396, 5)
	for i, x := range []struct {
		more []api.Entry
		year int
		want map[int]api.Answer
	}{
		{nil, 1710, map[int]api.Answer{4: api.Yes, 6: api.No, 5: api.Open, 7: api.No, 8: api.Yes}},
		{nil, 1711, map[int]api.Answer{4: api.Yes, 6: api.No, 7: api.Open, 8: api.Open}},
		{nil, 1700, map[int]api.Answer{4: api.Yes, 6: api.No}},
		// A walk that is withdrawn says nothing.
		{[]api.Entry{north(3, 404)}, 1710, map[int]api.Answer{4: api.Yes, 6: api.No, 7: api.No}},
		// Of two walks of one credit each one may be wrong.
		{[]api.Entry{north(1, 404)}, 1710, map[int]api.Answer{4: api.Yes, 6: api.No, 7: api.Open}},
		{[]api.Entry{north(1, 404), north(3, 404)}, 1710, map[int]api.Answer{4: api.Yes, 6: api.No, 7: api.Yes}},
		{[]api.Entry{north(1, 396)}, 1710, map[int]api.Answer{4: api.Yes, 6: api.No, 7: api.No, 8: api.Open}},
		{[]api.Entry{north(1, 399)}, 1710, map[int]api.Answer{4: api.Yes, 6: api.No, 7: api.No}},
	} {
		r := enlarged(t, append([]api.Entry{at7, at8}, x.more...)...)
		for number, want := range x.want {
			if got, e := register.Side(r, number, x.year); e != api.OK || got != want {
				t.Errorf("P9.6: Side of %d in %d of the register %d is %d, %d, not %d", number, x.year, i, got, e, want)
			}
		}
	}
}

func TestErrorsOfSide(t *testing.T) {
	r := enlarged(t)
	for _, number := range []int{0, 1, -4, lastField, 1 << 60} {
		for _, year := range []int{1710, -1, lastYear + 1} {
			wantError(t, "P9.6: Side of no field", api.ErrNone, all(register.Side(r, number, year))...)
		}
	}
	wantError(t, "P9.6: Side in no year", api.ErrArg, all(register.Side(r, 4, -1))...)
	wantError(t, "P9.6: Side in no year", api.ErrArg, all(register.Side(r, 4, lastYear+1))...)
	wantError(t, "P9.6: Side without stones", api.ErrNone, all(register.Side(r, 4, 1699))...)
	wantError(t, "P9.6: Side without stones", api.ErrNone, all(register.Side(r, 4, 1721))...)
	ringless := enlarged(t)
	ringless.Parish.Ring = nil
	wantError(t, "P9.6: Side without bounds", api.ErrNone, all(register.Side(ringless, 4, 1710))...)
}

func TestErrorOfOneWithdrawal(t *testing.T) {
	// Two walks of one credit contradict each other. Without the first one the stone 4 could stand nearly anywhere; without the second one it is known well.
	huge := box(0, 249, 0, 249)
	rough := walked(1, 1711, leg(1, 4, -1, 1711, 240, 9))
	exact := walked(1, 1711, leg(1, 4, -1, 1711, 3, 0))
	for _, l := range [][]api.Entry{{exact, rough}, {rough, exact}} {
		r := enlarged(t, append([]api.Entry{stone(4, 1700, huge), seen(4, 1720, huge)}, l...)...)
		wantError(t, "P9.6: Side of two withdrawals, one of which leaves too many solutions", api.ErrLimit, all(register.Side(r, 4, 1711))...)
		if _, some, e := register.Blamed(r, 1711); e != api.OK || len(some) != 2 {
			t.Errorf("P9.5: Blamed of two walks that contradict each other is %v, %d", some, e)
		}
		r = enlarged(t, stone(4, 1700, huge), seen(4, 1720, huge), exact)
		if side, e := register.Side(r, 4, 1711); side != api.Yes || e != api.OK {
			t.Errorf("P9.6: Side of a walk that is true is %d, %d", side, e)
		}
	}
}
