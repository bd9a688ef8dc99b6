package register_test

import (
	"math/rand/v2"
	"slices"
	"testing"

	"boundstone/api"
	"boundstone/register"
)

func TestRandomFold(t *testing.T) {
	r := newRand(9, 6)
	refused := map[api.Errno]int{}
	n := [5]int{}
	for range 1500 {
		v := randomVillage(r)
		known := randomKnown(r)
		got, e := register.Fold(v.l, known)
		want := slowFold(v.l, known)
		if e != api.OK || !same(got, want) {
			t.Fatalf("P9.3: Fold of %v in %d is %v, %d, not %v", v.l, known, got, e, want)
		}
		if e := register.Check(got); e != api.OK {
			t.Fatalf("P9.14: Check of Fold of %v in %d is %d", v.l, known, e)
		}
		for _, x := range got.Refused {
			refused[x.Err]++
		}
		for i, l := range []int{len(got.Parish.Walks), len(got.Customs), len(got.Claims), len(got.Paid), len(got.Fields)} {
			n[i] += min(l, 1)
		}
		checkOrder(t, r, v.l, known)
		checkLaterAndBack(t, r, v.l, known)
	}
	for _, e := range []api.Errno{api.ErrArg, api.ErrNone, api.ErrTwice, api.ErrForm, api.ErrState} {
		if refused[e] < 20 {
			t.Errorf("P9.3: these villages test little: %v", refused)
		}
	}
	if slices.Min(n[:]) < 300 {
		t.Errorf("P9.3: these villages test little: %v", n)
	}
}

// checkLaterAndBack checks that a register stays the same without entries that are written later, and without what is taken back and what takes it back.
func checkLaterAndBack(t *testing.T, r *rand.Rand, l []api.Entered, known int) {
	t.Helper()
	want, _ := register.Fold(l, known)
	later := slices.DeleteFunc(slices.Clone(l), func(x api.Entered) bool { return x.Entry.Written > known })
	if got, e := register.Fold(later, known); e != api.OK || !same(got, want) {
		t.Fatalf("P9.14: without what is written later than %d Fold of %v is %v, %d, not %v", known, l, got, e, want)
	}
	less := slices.DeleteFunc(slices.Clone(later), func(x api.Entered) bool {
		return x.Entry.Kind == api.EnBack || slices.ContainsFunc(later, func(y api.Entered) bool {
			return y.Entry.Kind == api.EnBack && y.Name.Vestry == x.Name.Vestry && y.Entry.Target.Line == x.Name.Line
		})
	})
	if got, e := register.Fold(less, known); e != api.OK || !same(got, want) {
		t.Fatalf("P9.14: without what is taken back in %d Fold of %v is %v, %d, not %v", known, l, got, e, want)
	}
	more := with(l, entered(r.IntN(3), lastLine, min(lastYear, known+1), witness(99, 0, 0)))
	if got, e := register.Fold(more, known); known < lastYear && (e != api.OK || !same(got, want)) {
		t.Fatalf("P9.14: with what is written later than %d Fold of %v is %v, %d, not %v", known, l, got, e, want)
	}
}

// tally counts what was told.
type tally map[string]int

// checkAll compares all answers about a register with slow ones.
func checkAll(t *testing.T, r api.Register, number, year int, n tally) {
	t.Helper()
	b, e := register.Bench(r, year)
	if want, f := slowBench(r, year); e != f || !same(b, want) {
		t.Fatalf("P9.5: Bench of %v in %d is %v, %d, not %v, %d", r, year, b, e, want, f)
	}
	one, two, e := register.Blamed(r, year)
	if all, some, f := slowBlamed(r, year); e != f || !slices.Equal(one, all) || !slices.Equal(two, some) {
		t.Fatalf("P9.5: Blamed of %v in %d is %v, %v, %d, not %v, %v, %d", r, year, one, two, e, all, some, f)
	}
	n["blamed"] += len(one)
	n["suspected"] += len(two) - len(one)
	learnt, e := register.Learn(r, year)
	if want, f := slowLearn(r, year); e != f || !same(learnt, want) {
		t.Fatalf("P9.5: Learn of %v in %d is %v, %d, not %v, %d", r, year, learnt, e, want, f)
	}
	side, e := register.Side(r, number, year)
	if want, f := slowSide(r, number, year); side != want || e != f {
		t.Fatalf("P9.6: Side of %d in %d of %v is %d, %d, not %d, %d", number, year, r, side, e, want, f)
	}
	n["side "+[]string{"error", "no", "yes", "open"}[side]]++
	atoms, e := register.Atoms(r, number, year)
	if want, f := slowAtoms(r, number, year); e != f || !same(atoms, want) {
		t.Fatalf("P9.7: Atoms of %d in %d of %v is %v, %d, not %v, %d", number, year, r, atoms, e, want, f)
	}
	for _, a := range atoms {
		n[a.Pred]++
	}
	l, e := register.Clauses(r, year)
	if want := slowClauses(r.Customs, year); e != api.OK || !same(l, want) {
		t.Fatalf("P9.8: Clauses of %v in %d is %v, %d, not %v", r, year, l, e, want)
	}
	vestry, e := register.Takes(r, number, year)
	want := slowTakes(r, number, year)
	if (takes{vestry, e}) != want {
		t.Fatalf("P9.8: Takes of %d in %d of %v is %d, %d, not %v", number, year, r, vestry, e, want)
	}
	n["takes "+[]string{"none", "inner", "outer"}[vestry]]++
	if e == api.ErrClash {
		n["takes clash"]++
	}
	ids, e := register.Rests(r, number, year)
	if _, f := slowAtoms(r, number, year); e != f || e == api.OK && !slices.Equal(ids, slowRests(r, number, year)) {
		t.Fatalf("P9.8: Rests of %d in %d of %v is %v, %d, not %v, %d", number, year, r, ids, e, slowRests(r, number, year), f)
	}
	n["rests"] += len(ids)
}

func TestRandomAnswers(t *testing.T) {
	r := newRand(9, 7)
	n := tally{}
	for range 1800 {
		v := randomVillage(r)
		known, number := randomKnown(r), v.anyField(r)
		if r.IntN(8) == 0 {
			number = r.IntN(11)
		}
		checkAll(t, folded(t, v.l, known), number, randomYear(r), n)
		checkAll(t, folded(t, v.l, lastYear), v.anyField(r), 1706, n)
	}
	for _, what := range []string{"blamed", "suspected", "side error", "side no", "side yes", "side open", "unknown", "claimed", "holder", "had", "takes none", "takes inner", "takes outer", "takes clash", "rests"} {
		if n[what] < 20 {
			t.Errorf("P9.8: these villages test little: %v", n)
			break
		}
	}
}

func TestRandomTithes(t *testing.T) {
	r := newRand(9, 8)
	moved, transferred, errs := 0, 0, 0
	for range 400 {
		v := randomVillage(r)
		a, b := folded(t, v.l, 1700+r.IntN(8)), folded(t, v.l, lastYear)
		year := randomYear(r)
		dues, e := register.Dues(b, year)
		if want := slowDues(b, year); e != api.OK || !slices.Equal(dues, want) {
			t.Fatalf("P9.9: Dues of %v in %d is %v, %d, not %v", b, year, dues, e, want)
		}
		for _, d := range dues {
			errs += min(1, int(d.Err))
		}
		years := span(1703+r.IntN(4), 1707+r.IntN(3))
		l, e := register.Transfers(b, years)
		if want := slowTransfers(b, years); e != api.OK || !slices.Equal(l, want) {
			t.Fatalf("P9.9: Transfers of %v in %v is %v, %d, not %v", b, years, l, e, want)
		}
		transferred += len(l)
		fields, e := register.Moved(a, b, years)
		if want := slowMoved(a, b, years); e != api.OK || !slices.Equal(fields, want) {
			t.Fatalf("P9.10: Moved of %v and %v in %v is %v, %d, not %v", a, b, years, fields, e, want)
		}
		moved += len(fields)
	}
	if moved < 300 || transferred < 2000 || errs < 200 {
		t.Errorf("P9.9: these villages test little: %d are moved, %d transfers, %d errors", moved, transferred, errs)
	}
}

func TestRandomNeeds(t *testing.T) {
	r := newRand(9, 9)
	lengths := map[int]int{}
	for range 250 {
		v := randomVillage(r)
		known, year := randomKnown(r), randomYear(r)
		l := with(v.l, v.l[r.IntN(len(v.l))], v.l[0])
		r.Shuffle(len(l), func(i, j int) { l[i], l[j] = l[j], l[i] })
		number := v.anyField(r)
		names, e := register.Needs(l, known, number, year)
		if _, f := slowFieldOf(folded(t, l, known), number); e != f {
			t.Fatalf("P9.11: the error of Needs of %d in %d of %v as known in %d is %d, not %d", number, year, l, known, e, f)
		}
		if want := slowNeeds(l, known, number, year); e == api.OK && !slices.Equal(names, want) {
			t.Fatalf("P9.11: Needs of %d in %d of %v as known in %d is %v, not %v", number, year, l, known, names, want)
		}
		lengths[len(names)]++
	}
	if len(lengths) < 8 {
		t.Errorf("P9.11: these villages test little: %v", lengths)
	}
}
