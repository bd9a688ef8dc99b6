package register_test

import (
	"fmt"
	"math"
	"slices"
	"testing"

	"boundstone/api"
	"boundstone/register"
)

func TestDues(t *testing.T) {
	r := enlarged(t, field(2, 100, 100, 0), rule(1711, 1711, "takes(4, 1). takes(4, 2). takes(6, 1). d(1). d(2)."), rule(1712, 1712, "d(1). d(2). d(3). d(4). d(5). d(6). d(7). e(X, Y, Z) if d(X), d(Y), d(Z)."))
	for _, x := range []struct {
		year int
		want []api.Due
	}{
		{1710, []api.Due{{Field: 2, Vestry: 1}, {Field: 4, Vestry: 1, Pence: 50}, {Field: 5, Err: api.ErrNone}, {Field: 6, Vestry: 2, Pence: 30}}},
		{1711, []api.Due{{Field: 2, Err: api.ErrNone}, {Field: 4, Err: api.ErrClash}, {Field: 5, Err: api.ErrNone}, {Field: 6, Vestry: 1, Pence: 30}}},
		{1712, []api.Due{{Field: 2, Err: api.ErrLimit}, {Field: 4, Err: api.ErrLimit}, {Field: 5, Err: api.ErrLimit}, {Field: 6, Err: api.ErrLimit}}},
		{1699, []api.Due{{Field: 2, Err: api.ErrNone}, {Field: 4, Err: api.ErrNone}, {Field: 5, Err: api.ErrNone}, {Field: 6, Err: api.ErrNone}}},
	} {
		if l, e := register.Dues(r, x.year); e != api.OK || !slices.Equal(l, x.want) {
			t.Errorf("P9.9: Dues in %d is %v, %d, not %v", x.year, l, e, x.want)
		}
	}
	if l, e := register.Dues(api.Register{}, 1700); e != api.OK || len(l) != 0 {
		t.Errorf("P9.9: Dues of nothing is %v, %d", l, e)
	}
}

func TestTransfers(t *testing.T) {
	move := func(number, year, from, to, n int) api.Transfer {
		return api.Transfer{Field: number, Year: year, From: from, To: to, Pence: n}
	}
	for i, x := range []struct {
		paid  []api.Entry
		years api.Span
		want  []api.Transfer
	}{
		{nil, span(1710, 1710), []api.Transfer{move(4, 1710, 0, 1, 50), move(6, 1710, 0, 2, 30)}},
		{[]api.Entry{paid(4, 1710, 1, 50), paid(6, 1710, 2, 30)}, span(1710, 1710), nil},
		{[]api.Entry{paid(4, 1710, 1, 20), paid(6, 1710, 2, 31)}, span(1710, 1710), []api.Transfer{move(4, 1710, 0, 1, 30), move(6, 1710, 2, 0, 1)}},
		{[]api.Entry{paid(4, 1710, 2, 50), paid(6, 1710, 1, 20)}, span(1710, 1710), []api.Transfer{move(4, 1710, 2, 1, 50), move(6, 1710, 1, 2, 20), move(6, 1710, 0, 2, 10)}},
		{[]api.Entry{paid(4, 1710, 2, 40), paid(4, 1710, 1, 20), paid(6, 1710, 2, 10), paid(6, 1710, 2, 20)}, span(1710, 1710), []api.Transfer{move(4, 1710, 2, 1, 40), move(4, 1710, 1, 0, 10)}},
		{[]api.Entry{paid(4, 1710, 2, 40), paid(4, 1710, 1, 10), paid(6, 1710, 1, 90)}, span(1710, 1710), []api.Transfer{move(4, 1710, 2, 1, 40), move(6, 1710, 1, 2, 90), move(6, 1710, 2, 0, 60)}},
		// Nothing for a field whose vestry is not known, nor for other years.
		{[]api.Entry{paid(5, 1711, 2, 40), paid(5, 1710, 1, 40)}, span(1699, 1700), []api.Transfer{move(4, 1700, 0, 1, 50), move(6, 1700, 0, 2, 30)}},
		{[]api.Entry{paid(5, 1711, 2, 40), paid(5, 1710, 1, 40)}, span(1710, 1711), []api.Transfer{move(4, 1710, 0, 1, 50), move(6, 1710, 0, 2, 30), move(4, 1711, 0, 1, 50), move(5, 1711, 2, 1, 40), move(5, 1711, 1, 0, 20), move(6, 1711, 0, 2, 30)}},
	} {
		r := enlarged(t, x.paid...)
		if l, e := register.Transfers(r, x.years); e != api.OK || !slices.Equal(l, x.want) || !slices.Equal(l, slowTransfers(r, x.years)) {
			t.Errorf("P9.9: Transfers of the register %d in %v is %v, %d, not %v", i, x.years, l, e, x.want)
		}
	}
	// The example: 30 were paid to 1 for a field of 50 pence that 2 takes.
	r := enlarged(t, paid(4, 1710, 1, 30), rule(1710, 1710, "takes(4, 2)."))
	if l, e := register.Transfers(r, span(1710, 1710)); e != api.OK || !slices.Equal(l, []api.Transfer{move(4, 1710, 1, 2, 30), move(4, 1710, 0, 2, 20)}) {
		t.Errorf("P9.9: Transfers of the example is %v, %d", l, e)
	}
}

func TestErrorsOfYears(t *testing.T) {
	r := enlarged(t)
	for _, x := range []struct {
		years api.Span
		want  api.Errno
	}{
		{span(1700, 1739), api.OK}, {span(0, 39), api.OK}, {span(lastYear-39, lastYear), api.OK}, {span(lastYear, lastYear), api.OK}, {span(0, 0), api.OK},
		{span(1700, 1740), api.ErrLimit}, {span(0, lastYear), api.ErrLimit}, {span(lastYear-40, lastYear), api.ErrLimit},
		{span(1701, 1700), api.ErrArg}, {span(-1, 3), api.ErrArg}, {span(-1, -1), api.ErrArg}, {span(lastYear, lastYear+1), api.ErrArg}, {span(-1, lastYear), api.ErrArg}, {span(0, lastYear+1), api.ErrArg}, {span(lastYear+1, lastYear+1), api.ErrArg}, {span(math.MinInt64, math.MaxInt64), api.ErrArg}, {span(math.MaxInt64, math.MinInt64), api.ErrArg},
	} {
		l, e := register.Transfers(r, x.years)
		if x.want == api.OK {
			l = nil
		}
		wantError(t, fmt.Sprint("P9.9: Transfers in ", x.years), x.want, l, e)
		wantError(t, fmt.Sprint("P9.10: Moved in ", x.years), x.want, all(register.Moved(r, r, x.years))...)
	}
}

func TestHolds(t *testing.T) {
	r := enlarged(t, paid(4, 1710, 1, 30), paid(4, 1710, 1, 5), paid(4, 1710, 2, 7), paid(4, 1711, 1, 100), paid(6, 1710, 1, 100))
	move := func(number, year, from, to, n int) api.Transfer {
		return api.Transfer{Field: number, Year: year, From: from, To: to, Pence: n}
	}
	for i, x := range []struct {
		l          []api.Transfer
		vestry     int
		field, due int
	}{
		{nil, 1, 4, 35}, {nil, 2, 4, 7}, {nil, 1, 6, 100}, {nil, 2, 6, 0}, {nil, 1, 5, 0},
		{[]api.Transfer{move(4, 1710, 1, 2, 35)}, 1, 4, 0}, {[]api.Transfer{move(4, 1710, 1, 2, 35)}, 2, 4, 42}, {[]api.Transfer{move(4, 1710, 0, 2, 3), move(4, 1710, 0, 1, 4), move(4, 1710, 2, 0, 1)}, 2, 4, 9},
		{[]api.Transfer{move(4, 1711, 1, 2, 35), move(6, 1710, 1, 2, 3), move(4, 1709, 2, 1, 3)}, 1, 4, 35}, {[]api.Transfer{move(4, 1710, 2, 1, 100)}, 2, 4, -93}, {[]api.Transfer{move(4, 1710, 1, 1, 100)}, 1, 4, 35},
		{[]api.Transfer{move(4, 1710, 9, 1, 100), move(4, 1710, 1, -7, 1)}, 1, 4, 134}, {slices.Repeat([]api.Transfer{move(4, 1710, 0, 1, 60*pence)}, 960), 1, 4, 35 + 960*60*pence}, {[]api.Transfer{move(4, 1710, 0, 1, 0)}, 1, 4, 35},
	} {
		if n, e := register.Holds(r, x.l, x.vestry, x.field, 1710); n != x.due || e != api.OK {
			t.Errorf("P9.9: Holds %d is %d, %d, not %d", i, n, e, x.due)
		}
	}
}

func TestErrorsOfHolds(t *testing.T) {
	r := enlarged(t)
	many, wrong := make([]api.Transfer, 961), []api.Transfer{{Field: 9, Year: -7, Pence: -1}}
	for i, x := range []struct {
		l                   []api.Transfer
		vestry, field, year int
		want                api.Errno
	}{
		{nil, 0, 4, 1710, api.ErrArg}, {nil, 3, 4, 1710, api.ErrArg}, {nil, -1, 99, 1710, api.ErrArg}, {many, 0, 99, -1, api.ErrArg}, {nil, math.MaxInt64, 4, 1710, api.ErrArg},
		{nil, 1, 99, 1710, api.ErrNone}, {many, 2, 99, -1, api.ErrNone}, {wrong, 2, 0, lastYear + 1, api.ErrNone},
		{many, 1, 4, -1, api.ErrArg}, {wrong, 2, 4, lastYear + 1, api.ErrArg},
		{many, 1, 4, 1710, api.ErrLimit}, {append(slices.Clone(many), wrong...), 1, 4, 1710, api.ErrLimit}, {many[:960], 1, 4, 1710, api.OK},
		{wrong, 1, 4, 1710, api.ErrRange}, {[]api.Transfer{{}, {Pence: 60*pence + 1}}, 1, 4, 1710, api.ErrRange}, {[]api.Transfer{{}, {Pence: 60 * pence}}, 1, 4, 1710, api.OK}, {[]api.Transfer{{Pence: math.MinInt64}}, 1, 4, 1710, api.ErrRange}, {[]api.Transfer{{Pence: math.MaxInt64}}, 1, 4, 1710, api.ErrRange},
		{nil, 1, 4, 0, api.OK}, {nil, 2, 4, lastYear, api.OK},
	} {
		n, e := register.Holds(r, x.l, x.vestry, x.field, x.year)
		wantError(t, fmt.Sprintf("P9.9: Holds %d", i), x.want, n, e)
	}
}
