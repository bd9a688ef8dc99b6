package register_test

import (
	"fmt"
	"math"
	"reflect"
	"slices"
	"strings"
	"testing"

	"boundstone/api"
	"boundstone/register"
)

// full returns a register of the land with payments, customs and claims.
func full() api.Register {
	more := []api.Entered{
		entered(0, 40, 1700, walked(2, 1711)),
		entered(0, 41, 1700, paid(4, 1709, 1, 30)), entered(0, 42, 1700, paid(6, 1709, 2, 5)), entered(0, 43, 1700, paid(5, 1709, 2, 20)), entered(0, 44, 1700, paid(5, 1710, 1, 20)),
		entered(1, 1, 1700, rule(1710, 1719, "takes(F, V) if side(F, V).")), entered(1, 2, 1700, rule(1715, 1725, "takes(F, V) if had(F, V). p(1) if q(X, 3), not r.")),
		entered(1, 3, 1700, claim(5, 1709, 1715)), entered(2, 3, 1700, claim(5, 1712, 1714)), entered(2, 4, 1700, claim(6, 1701, 1720)),
		entered(2, 5, 1700, field(0, 0, 0, 0)),
	}
	r, e := register.Fold(with(land(), more...), 1715)
	if e != api.OK || len(r.Refused) != 1 || len(r.Claims) != 3 || len(r.Customs) != 2 {
		panic(fmt.Sprint(e, r))
	}
	return r
}

type wrongRegister struct {
	step   int // where Check looks at it, in the chapter's order
	change func(r *api.Register)
	want   api.Errno
}

// wrongRegisters returns changes of the full register, with their errors.
func wrongRegisters() []wrongRegister {
	l := []wrongRegister{
		{1, func(r *api.Register) { r.Parish.Works.Chains[0].Wear = -1 }, api.ErrArg},
		{1, func(r *api.Register) { r.Parish.Stones = slices.Repeat(r.Parish.Stones, 3) }, api.ErrLimit},
		{1, func(r *api.Register) { r.Parish.Ring[0] = 9 }, api.ErrNone},
		{1, func(r *api.Register) { r.Parish.Walks[1].ID = r.Parish.Walks[0].ID }, api.ErrTwice},
		{2, func(r *api.Register) { r.Witnesses = manyWitnesses(13) }, api.ErrLimit},
		{2, func(r *api.Register) { r.Told = append(r.Told, make([]api.Told, 11)...) }, api.ErrLimit},
		{2, func(r *api.Register) { r.Fields = append(r.Fields, make([]api.Field, 6)...) }, api.ErrLimit},
		{2, func(r *api.Register) { r.Paid = append(r.Paid, make([]api.Paid, 57)...) }, api.ErrLimit},
		{2, func(r *api.Register) { r.Claims = append(r.Claims, make([]api.Claimed, 10)...) }, api.ErrLimit},
		{3, func(r *api.Register) { r.Witnesses[2].ID = 1 }, api.ErrTwice},
		{3, func(r *api.Register) { r.Witnesses[2].Right = -1 }, api.ErrArg},
		{3, func(r *api.Register) { r.Witnesses[2].Wrong = 10001 }, api.ErrArg},
		{3, func(r *api.Register) { r.Witnesses[2].ID = 0 }, api.ErrArg},
		{4, func(r *api.Register) { r.Told[1].Walk = 9 }, api.ErrNone},
		{4, func(r *api.Register) { r.Told[1].Witness = 9 }, api.ErrNone},
		{4, func(r *api.Register) { r.Told = append(r.Told, api.Told{Walk: 9, Witness: 1}) }, api.ErrNone},
		{4, func(r *api.Register) { r.Told = append(r.Told, api.Told{Witness: 1}) }, api.ErrNone},
		{4, func(r *api.Register) { r.Told[1].Walk = r.Told[0].Walk }, api.ErrTwice},
		{4, func(r *api.Register) { r.Told = append(r.Told, r.Told[1]) }, api.ErrTwice},
		{5, func(r *api.Register) { r.Told = r.Told[:1] }, api.ErrNone},
		{5, func(r *api.Register) { r.Told = r.Told[1:] }, api.ErrNone},
		{6, func(r *api.Register) { r.Fields[2].Number = 4 }, api.ErrTwice},
		{7, func(r *api.Register) { r.Paid[3].Field = 9 }, api.ErrNone},
		{7, func(r *api.Register) { r.Paid[3].Field = 0 }, api.ErrNone},
		{8, func(r *api.Register) { r.Customs[1].ID = r.Customs[0].ID }, api.ErrTwice},
		{8, func(r *api.Register) { slices.Reverse(r.Customs) }, api.ErrTwice},
		{8, func(r *api.Register) { r.Customs[1].From = 1726 }, api.ErrArg},
		{8, func(r *api.Register) { r.Customs[1].Clauses[0].Head.Pred = "Takes" }, api.ErrForm},
		{8, func(r *api.Register) { r.Customs[1].Clauses = clauses("p(X).") }, api.ErrUnsafe},
		{8, func(r *api.Register) { r.Customs[1].Clauses = clauses("side(F, V) if takes(F, V), not side(F, V).") }, api.ErrCycle},
		{8, func(r *api.Register) { r.Customs = make([]api.Custom, 31) }, api.ErrLimit},
		{8, func(r *api.Register) { r.Customs[1].Clauses = clauses(strings.Repeat("p.", 40)) }, api.ErrLimit},
		{9, func(r *api.Register) { r.Claims[2].Claim.Field = 9 }, api.ErrNone},
		{9, func(r *api.Register) { r.Claims[2].ID = r.Claims[0].ID }, api.ErrTwice},
	}
	for _, n := range []int{0, -1, lastField + 1, math.MaxInt64, math.MinInt64} {
		l = append(l, wrongRegister{6, func(r *api.Register) { r.Fields = append(r.Fields, api.Field{Number: n}) }, api.ErrArg})
	}
	for _, p := range []api.Point{at(1<<20+1, 0), at(0, -1<<20-1), at(math.MinInt64, 0)} {
		l = append(l, wrongRegister{6, func(r *api.Register) { r.Fields[2].At = p }, api.ErrArg})
	}
	for _, n := range []int{-1, pence + 1, math.MaxInt64} {
		l = append(l, wrongRegister{6, func(r *api.Register) { r.Fields[2].Pence = n }, api.ErrArg}, wrongRegister{7, func(r *api.Register) { r.Paid[3].Pence = n }, api.ErrArg})
	}
	for _, year := range []int{-1, lastYear + 1, math.MinInt64} {
		l = append(l, wrongRegister{7, func(r *api.Register) { r.Paid[3].Year = year }, api.ErrArg},
			wrongRegister{9, func(r *api.Register) { r.Claims[2].Claim.Year = year }, api.ErrArg}, wrongRegister{9, func(r *api.Register) { r.Claims[2].Claim.Until = year }, api.ErrArg})
	}
	for _, vestry := range []int{-1, 3, math.MaxInt64} {
		l = append(l, wrongRegister{7, func(r *api.Register) { r.Paid[3].Vestry = vestry }, api.ErrArg},
			wrongRegister{9, func(r *api.Register) { r.Claims[2].Vestry = vestry }, api.ErrArg}, wrongRegister{9, func(r *api.Register) { r.Claims[2].Holder = vestry }, api.ErrArg})
	}
	for _, id := range []int{0, -1, greatID + 1} {
		l = append(l, wrongRegister{9, func(r *api.Register) { r.Claims[2].ID = id }, api.ErrArg})
	}
	return append(l, wrongRegister{7, func(r *api.Register) { r.Paid[3].Pence = 0 }, api.ErrArg}, wrongRegister{7, func(r *api.Register) { r.Paid[3].Vestry = 0 }, api.ErrArg}, wrongRegister{9, func(r *api.Register) { r.Claims[2].Vestry = 0 }, api.ErrArg})
}

func manyWitnesses(n int) []api.Witness {
	var l []api.Witness
	for i := range n {
		l = append(l, api.Witness{ID: i + 1})
	}
	return l
}

// changed returns the full register with changes.
func changed(changes ...func(r *api.Register)) api.Register {
	r := plain(full())
	for _, change := range changes {
		change(&r)
	}
	return r
}

func TestCheck(t *testing.T) {
	for i, r := range []api.Register{
		{}, full(),
		changed(func(r *api.Register) { r.Witnesses = manyWitnesses(12) }),
		changed(func(r *api.Register) { r.Refused = slices.Repeat([]api.Refused{{Name: name(-1, -1), Err: -9}}, 500) }),
		changed(func(r *api.Register) {
			slices.Reverse(r.Fields)
			slices.Reverse(r.Claims)
			slices.Reverse(r.Told)
			slices.Reverse(r.Paid)
		}),
		changed(func(r *api.Register) { r.Fields[0] = api.Field{Number: 4, At: at(1<<20, -1<<20), Pence: pence} }),
		changed(func(r *api.Register) {
			r.Fields[1].Number = lastField
			r.Paid[1].Field = lastField
			r.Claims[2].Claim.Field = lastField
		}),
		changed(func(r *api.Register) {
			r.Paid = slices.Repeat(r.Paid[:1], 60)
			r.Paid[9].Pence = pence
			r.Paid[8].Year, r.Paid[7].Year = 0, lastYear
		}),
		changed(func(r *api.Register) {
			r.Claims[0].ID = greatID
			r.Claims[1].ID = 1
			r.Claims[0].Holder = 0
			r.Claims[1].Claim.Until = lastYear
			r.Claims[1].Claim.Year = 0
		}),
		changed(func(r *api.Register) { r.Told[0].Witness = r.Told[1].Witness }),
	} {
		if e := register.Check(r); e != api.OK {
			t.Errorf("P9.4: Check of the register %d is %d", i, e)
		}
	}
	for i, x := range wrongRegisters() {
		if e := register.Check(changed(x.change)); e != x.want {
			t.Errorf("P9.4: Check of the wrong register %d is %d, not %d", i, e, x.want)
		}
	}
}

func TestCheckOfTwoErrors(t *testing.T) {
	l := wrongRegisters()
	for i, x := range l {
		for j, y := range l {
			if x.step >= y.step || y.step == 5 && (x.step == 2 || x.step == 4) { // what was told cannot be both shorter and longer
				continue
			}
			if e := register.Check(changed(y.change, x.change)); e != x.want {
				t.Errorf("P9.4: Check of a register with the errors %d and %d is %d, not %d", i, j, e, x.want)
			}
		}
	}
}

func TestOrderOfErrorsInLists(t *testing.T) {
	for i, x := range []struct {
		change func(r *api.Register)
		want   api.Errno
	}{
		{func(r *api.Register) { r.Witnesses[1].ID = 1; r.Witnesses[2].Right = -1 }, api.ErrTwice},
		{func(r *api.Register) { r.Witnesses[1].Right = -1; r.Witnesses[2].ID = 1 }, api.ErrArg},
		{func(r *api.Register) { r.Witnesses[1] = api.Witness{ID: 1, Right: -1} }, api.ErrArg},
		{func(r *api.Register) { r.Told = append(r.Told, r.Told[0], api.Told{Walk: 9}) }, api.ErrTwice},
		{func(r *api.Register) { r.Told = append(r.Told, api.Told{Walk: 9}, r.Told[0]) }, api.ErrNone},
		{func(r *api.Register) { r.Told[1] = api.Told{Walk: r.Told[0].Walk, Witness: 9} }, api.ErrNone},
		{func(r *api.Register) { r.Fields[1].Number = 4; r.Fields[2].Pence = -1 }, api.ErrTwice},
		{func(r *api.Register) { r.Fields[1].Pence = -1; r.Fields[2].Number = 4 }, api.ErrArg},
		{func(r *api.Register) { r.Fields[1] = api.Field{Number: 4, Pence: -1} }, api.ErrArg},
		{func(r *api.Register) { r.Paid[0].Field = 9; r.Paid[1].Pence = 0 }, api.ErrNone},
		{func(r *api.Register) { r.Paid[0].Pence = 0; r.Paid[1].Field = 9 }, api.ErrArg},
		{func(r *api.Register) { r.Paid[0] = api.Paid{Field: 9} }, api.ErrNone},
		{func(r *api.Register) { r.Claims[0].Claim.Field = 9; r.Claims[1].ID = 0 }, api.ErrNone},
		{func(r *api.Register) { r.Claims[0].ID = 0; r.Claims[1].Claim.Field = 9 }, api.ErrArg},
		{func(r *api.Register) { r.Claims[1].ID = r.Claims[0].ID; r.Claims[2].ID = 0 }, api.ErrTwice},
		{func(r *api.Register) { r.Claims[1].ID = r.Claims[0].ID; r.Claims[1].Claim.Field = 9 }, api.ErrNone},
		{func(r *api.Register) { r.Claims[1].ID = r.Claims[0].ID; r.Claims[1].Holder = 3 }, api.ErrArg},
		{func(r *api.Register) { r.Claims[1].Claim.Field = 9; r.Claims[1].Holder = 3 }, api.ErrArg},
		{func(r *api.Register) { r.Claims[1].ID = r.Claims[0].ID; r.Claims[2].Claim.Field = 9 }, api.ErrTwice},
	} {
		if e := register.Check(changed(x.change)); e != x.want {
			t.Errorf("P9.4: Check of the register %d with two errors in a list is %d, not %d", i, e, x.want)
		}
	}
}

// calls returns the results of all calls with a register, by their names; those of Check are not among them.
func calls(r api.Register, field, year int) map[string][]any {
	m := map[string][]any{}
	m["P9.5: Bench"] = all(register.Bench(r, year))
	m["P9.5: Blamed"] = all(register.Blamed(r, year))
	m["P9.5: Learn"] = all(register.Learn(r, year))
	m["P9.6: Side"] = all(register.Side(r, field, year))
	m["P9.7: Atoms"] = all(register.Atoms(r, field, year))
	m["P9.8: Takes"] = all(register.Takes(r, field, year))
	m["P9.8: Clauses"] = all(register.Clauses(r, year))
	m["P9.8: Rests"] = all(register.Rests(r, field, year))
	m["P9.9: Dues"] = all(register.Dues(r, year))
	m["P9.9: Transfers"] = all(register.Transfers(r, span(year, year)))
	m["P9.9: Holds"] = all(register.Holds(r, nil, api.Inner, field, year))
	m["P9.10: Moved"] = all(register.Moved(r, r, span(year, year)))
	return m
}

func TestCheckComesFirst(t *testing.T) {
	for _, x := range wrongRegisters() {
		r := changed(x.change)
		for _, asked := range [][2]int{{4, 1710}, {99, -1}, {0, lastYear + 1}} {
			for what, results := range calls(r, asked[0], asked[1]) {
				wantError(t, what+" of a wrong register", x.want, results...)
			}
		}
		wantError(t, "P9.9: Transfers of a wrong register", x.want, all(register.Transfers(r, span(9, 3)))...)
		wantError(t, "P9.9: Holds of a wrong register", x.want, all(register.Holds(r, make([]api.Transfer, 999), 0, 99, -1))...)
		wantError(t, "P9.10: Moved of a wrong register", x.want, all(register.Moved(full(), r, span(9, 3)))...)
		wantError(t, "P9.10: Moved of a wrong register", x.want, all(register.Moved(r, full(), span(0, lastYear)))...)
		other := changed(func(r *api.Register) { r.Paid[3].Field = 9 })
		wantError(t, "P9.10: Moved of two wrong registers", x.want, all(register.Moved(r, other, span(9, 3)))...)
		wantError(t, "P9.10: Moved of two wrong registers", api.ErrNone, all(register.Moved(other, r, span(9, 3)))...)
	}
}

func TestRegistersWithAnyNumber(t *testing.T) {
	count, valid, n := 0, 0, tally{}
	r := full()
	eachInt(reflect.ValueOf(&r).Elem(), func(reflect.Value) { count++ })
	for i := range 4 * count {
		r, k := changed(), 0
		eachInt(reflect.ValueOf(&r).Elem(), func(v reflect.Value) {
			if k == i/4 {
				v.SetInt([]int64{math.MaxInt64, math.MinInt64, -1, 2}[i%4])
			}
			k++
		})
		e := register.Check(r)
		if e == api.OK {
			valid++
			checkAll(t, r, 4, 1710, n)
			continue
		}
		for what, results := range calls(r, 4, 1710) {
			wantError(t, what+" of a register with some number", e, results...)
		}
	}
	if count < 150 || valid < 100 || valid > 2*count {
		t.Errorf("P9.4: these registers test little: %d numbers, %d valid ones", count, valid)
	}
}

// eachInt calls a function for each integer of a value.
func eachInt(v reflect.Value, do func(v reflect.Value)) {
	switch v.Kind() {
	case reflect.Int:
		do(v)
	case reflect.Slice:
		for i := range v.Len() {
			eachInt(v.Index(i), do)
		}
	case reflect.Struct:
		for i := range v.NumField() {
			eachInt(v.Field(i), do)
		}
	}
}
