package register_test

import (
	"math"
	"slices"
	"strings"
	"testing"

	"boundstone/api"
	"boundstone/register"
	"boundstone/walk"
)

// refusal is entries of the parish inside, and the errors with which they are refused, by their lines.
type refusal struct {
	entries []api.Entry
	want    []api.Errno // OK for those that are not refused
}

// checkRefused checks which ones of some entries, that stand behind those of the land, are refused, in the order of the steps.
func checkRefused(t *testing.T, vestry, known int, x refusal) {
	t.Helper()
	l := with(land(), inBook(vestry, 101, x.entries...)...)
	r := folded(t, l, known)
	got := make([]api.Errno, len(x.entries))
	for _, f := range r.Refused {
		if f.Name.Vestry != vestry || f.Name.Line < 101 || f.Err == api.OK {
			t.Errorf("P9.3: %v is refused with %d", f.Name, f.Err)
			continue
		}
		got[f.Name.Line-101] = f.Err
	}
	if !slices.Equal(got, x.want) {
		t.Errorf("P9.3: %v in the book %d are refused in %d with %v, not with %v", x.entries, vestry, known, got, x.want)
	}
	if want := slowFold(l, known); !same(r, want) {
		t.Errorf("P9.3: Fold of %v in %d is %v, not %v", l, known, r, want)
	}
	if e := register.Check(r); e != api.OK {
		t.Errorf("P9.14: Check of what Fold returns for %v is %d", l, e)
	}
}

func errors(l ...api.Errno) []api.Errno { return l }

func TestRefusedChains(t *testing.T) {
	for _, x := range []refusal{
		{[]api.Entry{chain(2, 1700, 10000, 10000, 0), chain(1, 1700, 10000, 10000, 0), chain(2, 1700, 10000, 10000, 0)}, errors(0, api.ErrTwice, api.ErrTwice)},
		{[]api.Entry{chain(0, 1700, 10000, 10000, 0), chain(2, 1700, 10000, 9999, 0), chain(2, -1, 10000, 10000, 0), chain(2, 1700, 10000, 10000, -1), chain(2, 1700, 10000, 10000, 0)}, errors(api.ErrArg, api.ErrArg, api.ErrArg, api.ErrArg, 0)},
		{[]api.Entry{repair(1, 1705, 10000, 10001), repair(1, 1705, 10000, 10001), repair(2, 1705, 10000, 10001), repair(1, 1700, 10000, 10001)}, errors(0, api.ErrTwice, api.ErrArg, api.ErrArg)},
		{[]api.Entry{proof(1, 1705, 10000, 10001), proof(1, 1705, 10001, 10001), proof(1, 1705, 10000, 10000), proof(1, 1699, 10000, 10000), proof(7, 1705, 10000, 10000)}, errors(0, api.ErrClash, 0, api.ErrArg, api.ErrArg)},
		// Repairs come ahead of proofs, so that this proof lies in the spell of the repair.
		{[]api.Entry{proof(1, 1706, 9995, 9995), repair(1, 1705, 9995, 9995)}, errors(0, 0)},
		{[]api.Entry{proof(1, 1706, 10000, 10000), repair(1, 1705, 9995, 9995)}, errors(api.ErrClash, 0)},
		// Chains come ahead of both.
		{[]api.Entry{repair(3, 1705, 9995, 9995), proof(3, 1703, 10000, 10000), chain(3, 1700, 9990, 10000, 10)}, errors(0, 0, 0)},
	} {
		checkRefused(t, api.Inner, 1700, x)
	}
	var many []api.Entry
	for i := range 19 {
		many = append(many, chain(2+i, 1700, 10000, 10000, 0))
	}
	checkRefused(t, api.Outer, 1700, refusal{append(many, chain(50, 1700, 10000, 10000, 0)), append(make([]api.Errno, 19), api.ErrLimit)})
	many = slices.Repeat([]api.Entry{proof(1, 1705, 10000, 10000)}, 60)
	checkRefused(t, api.Outer, 1700, refusal{append(many, repair(1, 1709, 10000, 10000)), append(make([]api.Errno, 59), api.ErrLimit, 0)})
}

func TestRefusedStones(t *testing.T) {
	here := box(5, 9, 5, 9)
	wrong := stone(4, 1700, here)
	wrong.Sight.Letters = "a"
	low := stone(4, 1700, here)
	low.Habit.Step = -1
	for _, x := range []refusal{
		{[]api.Entry{stone(4, 1700, here), stone(4, 1701, here), stone(1, 1700, here), stone(0, 1700, here), stone(-1, 1700, here)}, errors(0, api.ErrTwice, api.ErrTwice, api.ErrArg, api.ErrArg)},
		{[]api.Entry{wrong, low, stone(4, 1700, box(9, 5, 5, 9)), stone(4, -1, here), stone(4, 1700, here)}, errors(api.ErrArg, api.ErrArg, api.ErrArg, api.ErrArg, 0)},
		{[]api.Entry{stone(4, 1700, here), stone(5, 1700, here), stone(6, 1700, here), stone(7, 1700, here), stone(1, 1700, here)}, errors(0, 0, 0, api.ErrLimit, api.ErrLimit)},
		// Sights, by their years; stones come ahead of them.
		{[]api.Entry{seen(4, 1705, here), stone(4, 1710, here), seen(4, 1720, here), seen(4, 1700, here), seen(4, 1710, here), seen(4, 1711, here)}, errors(0, 0, 0, 0, api.ErrArg, 0)},
		{[]api.Entry{seen(9, 1705, here), seen(9, -1, here), seen(1, -1, here), seen(3, 1700, here), seen(3, 1720, here), seen(3, 1710, here)}, errors(api.ErrNone, api.ErrNone, api.ErrArg, api.ErrArg, api.ErrArg, 0)},
		{[]api.Entry{seen(3, 1701, here), seen(3, 1702, here), seen(3, 1703, here), seen(3, 1704, here), seen(3, 1705, here), seen(3, 1706, here), seen(3, 1707, here), seen(3, 1708, here)}, errors(0, 0, 0, 0, 0, 0, 0, api.ErrLimit)},
		// Notes, behind all sights.
		{[]api.Entry{note(3, api.GaSame, 1700, 1720), note(9, api.GaSame, 1700, 1720), note(3, 3, 1700, 1720), note(3, api.GaMoved, 1720, 1700), note(3, api.GaMoved, 1700, 1720), note(9, 3, 0, 0)}, errors(0, api.ErrNone, api.ErrArg, api.ErrArg, 0, api.ErrNone)},
		{slices.Repeat([]api.Entry{note(2, api.GaSame, 1700, 1720)}, 21), append(make([]api.Errno, 20), api.ErrLimit)},
		{[]api.Entry{bounds(0, 1, 2), bounds(0, 1, 2, 9), bounds(0, 1, 2, 2), bounds(-1, 1, 2, 3), bounds(9, 1, 2, 3), bounds(0, 1, 2, 3, 1, 2, 3, 1), bounds(8, 3, 2, 1)}, errors(api.ErrLimit, api.ErrNone, api.ErrTwice, api.ErrArg, api.ErrArg, api.ErrLimit, 0)},
		{[]api.Entry{bounds(2, 3, 2, 1), bounds(1)}, errors(0, 0)},
		{[]api.Entry{bounds(0, 1, 2, 3, 4), stone(4, 1700, here)}, errors(0, 0)},
	} {
		checkRefused(t, api.Inner, 1700, x)
	}
}

func TestRefusedWalks(t *testing.T) {
	stranger := walked(1, 1710, leg(1, 9, -1, 1710, 5, 0))
	circle := walked(1, 1710, leg(1, 1, -1, 1710, 5, 0))
	chained := walked(1, 1710, leg(1, 2, -1, 1710, 5, 0))
	chained.Walk.Legs[0].Measure.Chain = 9
	aside := walked(1, 1710)
	aside.Walk.Offsets = []api.Offset{{A: 1, B: 2, C: 2}}
	ten := walked(1, 1710, slices.Repeat([]api.Leg{leg(1, 2, -1, 1710, 300, 0)}, 10)...)
	eleven := walked(1, 1710, slices.Repeat([]api.Leg{leg(1, 2, -1, 1710, 300, 0)}, 11)...)
	for _, x := range []refusal{
		{[]api.Entry{witness(4, 0, 0), witness(1, 0, 0), witness(4, 0, 0), witness(0, 0, 0), witness(5, -1, 0), witness(1, 0, 10001), witness(5, 10000, 10000)}, errors(0, api.ErrTwice, api.ErrTwice, api.ErrArg, api.ErrArg, api.ErrArg, 0)},
		{[]api.Entry{witness(4, 0, 0), witness(5, 0, 0), witness(6, 0, 0), witness(7, 0, 0), witness(8, 0, 0), witness(9, 0, 0), witness(10, 0, 0), witness(11, 0, 0), witness(12, 0, 0), witness(13, 0, 0), witness(2, 0, 0), witness(13, 0, -1)}, append(make([]api.Errno, 9), api.ErrLimit, api.ErrTwice, api.ErrArg)},
		{[]api.Entry{walked(4, 1710), walked(1, 1710), walked(4, -1), walked(1, -1), stranger, circle, chained, aside, ten, eleven}, errors(api.ErrNone, 0, api.ErrNone, api.ErrArg, api.ErrNone, api.ErrArg, api.ErrArg, api.ErrArg, 0, api.ErrLimit)},
		// Witnesses come ahead of walks.
		{[]api.Entry{walked(4, 1710, leg(1, 2, api.East, 1710, 300, 0)), witness(4, 0, 0)}, errors(0, 0)},
		{slices.Repeat([]api.Entry{walked(1, 1710)}, 13), append(make([]api.Errno, 11), api.ErrLimit, api.ErrLimit)},
	} {
		checkRefused(t, api.Inner, 1700, x)
	}
}

func TestRefusedFields(t *testing.T) {
	far := 1 << 20
	for _, x := range []refusal{
		{[]api.Entry{field(0, 0, 0, 1), field(1001, 0, 0, 1), field(1000, far, -far, pence), field(4, 0, 0, 1), field(7, far+1, 0, 1), field(7, 0, -far-1, 1), field(7, 0, 0, -1), field(7, 0, 0, pence+1), field(4, 0, 0, -1), field(7, 0, 0, 0), field(7, 0, 0, 0)},
			errors(api.ErrArg, api.ErrArg, 0, api.ErrTwice, api.ErrArg, api.ErrArg, api.ErrArg, api.ErrArg, api.ErrArg, 0, api.ErrTwice)},
		{[]api.Entry{field(1, 0, 0, 1), field(2, 0, 0, 1), field(3, 0, 0, 1), field(7, 0, 0, 1), field(8, 0, 0, 1), field(9, 0, 0, 1), field(8, 0, 0, 1), field(9, 0, 0, -1)}, errors(0, 0, 0, 0, 0, api.ErrLimit, api.ErrTwice, api.ErrArg)},
		{[]api.Entry{paid(7, 1700, 1, 5), paid(4, 1700, 1, 5), paid(4, 1700, 0, 5), paid(4, 1700, 3, 5), paid(4, 1700, 2, 0), paid(4, 1700, 2, pence+1), paid(4, 0, 2, pence), paid(4, lastYear, 2, 1), paid(4, -1, 2, 1), paid(4, lastYear+1, 2, 1), paid(7, -1, 0, 0), paid(4, 1700, 2, -5)},
			errors(api.ErrNone, 0, api.ErrArg, api.ErrArg, api.ErrArg, api.ErrArg, 0, 0, api.ErrArg, api.ErrArg, api.ErrNone, api.ErrArg)},
		// Fields come ahead of payments.
		{[]api.Entry{paid(7, 1700, 1, 5), field(7, 0, 0, 1)}, errors(0, 0)},
		{append(slices.Repeat([]api.Entry{paid(4, 1700, 1, 5)}, 61), paid(7, 1700, 1, 5), paid(4, 1700, 1, 0)), append(make([]api.Errno, 60), api.ErrLimit, api.ErrNone, api.ErrArg)},
	} {
		checkRefused(t, api.Inner, 1700, x)
	}
}

func TestRefusedCustoms(t *testing.T) {
	facts := func(n int) string { return strings.Repeat("p.", n) }
	for _, x := range []refusal{
		{[]api.Entry{rule(1700, 1710, "takes(F, 1) if field(F)."), rule(1700, 1710, "takes(F"), rule(1700, 1710, facts(41)), rule(1710, 1700, "takes(F"), rule(1710, 1700, "p."), rule(-1, 1700, "p."), rule(1700, lastYear+1, "p."), rule(0, lastYear, "")},
			errors(0, api.ErrForm, api.ErrLimit, api.ErrForm, api.ErrArg, api.ErrArg, api.ErrArg, 0)},
		{[]api.Entry{rule(1700, 1710, "p(X)."), rule(1700, 1710, "p if not p."), rule(1700, 1710, "p if not q."), rule(1710, 1720, "q if p."), rule(1711, 1720, "q if p.")}, errors(api.ErrUnsafe, api.ErrCycle, 0, api.ErrCycle, 0)},
		{[]api.Entry{rule(1700, 1710, facts(30)), rule(1705, 1720, facts(11)), rule(1705, 1720, facts(10)), rule(1711, 1720, facts(30)), rule(1700, 1720, facts(1))}, errors(0, api.ErrLimit, 0, 0, api.ErrLimit)},
		{slices.Repeat([]api.Entry{rule(1700, 1710, "p.")}, 31), append(make([]api.Errno, 30), api.ErrLimit)},
		{[]api.Entry{rule(1700, 1710, strings.Repeat(" ", 6001))}, errors(api.ErrLimit)},
	} {
		checkRefused(t, api.Inner, 1700, x)
	}
}

func TestRefusedClaims(t *testing.T) {
	good := []api.Entry{claim(4, 1702, 1705), claim(4, 0, 0), claim(6, lastYear, lastYear)}
	checkRefused(t, api.Inner, 1700, refusal{good, errors(0, 0, 0)})
	checkRefused(t, api.Outer, 1700, refusal{good, errors(0, 0, 0)})
	checkRefused(t, api.Diocese, 1700, refusal{good, errors(api.ErrArg, api.ErrArg, api.ErrArg)})
	checkRefused(t, api.Diocese, 1700, refusal{[]api.Entry{claim(7, 1702, 1705)}, errors(api.ErrArg)})
	checkRefused(t, api.Outer, 1700, refusal{[]api.Entry{claim(7, 1702, 1705), claim(7, -1, 1705), claim(4, -1, 1705), claim(4, 1702, -1), claim(4, lastYear+1, 1705), claim(4, 1702, lastYear+1)},
		errors(api.ErrNone, api.ErrArg, api.ErrArg, api.ErrArg, api.ErrArg, api.ErrArg)})
	// Fields come ahead of claims.
	checkRefused(t, api.Outer, 1700, refusal{[]api.Entry{claim(7, 1702, 1705), field(7, 0, 0, 1)}, errors(0, 0)})
	checkRefused(t, api.Outer, 1700, refusal{append(slices.Repeat(good[:1], 13), claim(7, 1700, 1700), claim(4, -1, 0)), append(make([]api.Errno, 12), api.ErrLimit, api.ErrNone, api.ErrArg)})
}

func TestRefusedAnswers(t *testing.T) {
	claims := inBook(api.Inner, 1, claim(4, 1702, 1705), witness(9, 0, 0))
	claims = append(claims, inBook(api.Outer, 1, claim(6, 1702, 1705))...)
	for _, x := range []struct {
		vestry, year int
		e            api.Entry
		want         api.Errno
	}{
		{api.Outer, 1700, answer(1, 1), api.OK}, {api.Outer, 1705, answer(1, 1), api.OK}, {api.Outer, 1706, answer(1, 1), api.ErrState}, {api.Inner, 1700, answer(1, 1), api.ErrState}, {api.Diocese, 1700, answer(1, 1), api.ErrState},
		{api.Inner, 1705, answer(2, 1), api.OK}, {api.Outer, 1705, answer(2, 1), api.ErrState}, {api.Diocese, 1706, answer(2, 1), api.ErrState}, {api.Inner, 1706, answer(2, 1), api.ErrState},
		{api.Outer, 1700, answer(1, 2), api.ErrNone}, {api.Outer, 1700, answer(1, 3), api.ErrNone}, {api.Diocese, 1706, answer(1, 3), api.ErrNone}, {api.Outer, 1700, answer(0, 1), api.ErrNone}, {api.Outer, 1700, answer(3, 1), api.ErrNone},
		{api.Outer, 1700, answer(1+1<<61, 1), api.ErrNone}, {api.Outer, 1700, answer(-1, 1), api.ErrNone}, {api.Outer, 1700, answer(math.MinInt64, 1), api.ErrNone},
		{api.Diocese, 1700, ruling(1, 1, 1), api.OK}, {api.Diocese, 3000, ruling(2, 1, 1), api.OK}, {api.Diocese, 1700, ruling(1, 1, 2), api.OK},
		{api.Diocese, 1700, ruling(1, 1, 0), api.ErrArg}, {api.Diocese, 1700, ruling(1, 1, 3), api.ErrArg}, {api.Inner, 1700, ruling(1, 1, 1), api.ErrArg}, {api.Outer, 1700, ruling(1, 1, 1), api.ErrArg}, {api.Outer, 1700, ruling(9, 9, 1), api.ErrArg}, {api.Diocese, 1700, ruling(9, 9, 0), api.ErrArg},
		{api.Diocese, 1700, ruling(1, 2, 1), api.ErrNone}, {api.Diocese, 1700, ruling(0, 1, 1), api.ErrNone}, {api.Diocese, 1700, ruling(1+1<<61, 1, 1), api.ErrNone}, {api.Diocese, 1700, ruling(math.MaxInt64, 400, 1), api.ErrNone},
	} {
		l := with(with(land(), claims...), entered(x.vestry, 50, x.year, x.e))
		r := folded(t, l, lastYear)
		var want []api.Refused
		if x.want != api.OK {
			want = []api.Refused{{Name: name(x.vestry, 50), Err: x.want}}
		}
		if !slices.Equal(r.Refused, want) || !same(r, slowFold(l, lastYear)) {
			t.Errorf("P9.3: with %v of %d in the book %d %v are refused, not %v", x.e, x.year, x.vestry, r.Refused, want)
		}
	}
}

// holders returns the Holder of each claim.
func holders(r api.Register) []int {
	var l []int
	for _, c := range r.Claims {
		l = append(l, c.Holder)
	}
	return l
}

func TestHolders(t *testing.T) {
	inner := entered(api.Inner, 2, 1701, claim(4, 1702, 1705))
	outer := entered(api.Outer, 2, 1701, claim(6, 1702, 1703))
	for i, x := range []struct {
		more  []api.Entered
		known int
		want  []int
	}{
		{nil, 1703, []int{0, 0}}, {nil, 1704, []int{0, 2}}, {nil, 1705, []int{0, 2}}, {nil, 1706, []int{1, 2}}, {nil, lastYear, []int{1, 2}},
		{[]api.Entered{entered(api.Outer, 3, 1705, answer(1, 2))}, 1706, []int{0, 2}},
		{[]api.Entered{entered(api.Outer, 3, 1706, answer(1, 2))}, 1706, []int{1, 2}},
		{[]api.Entered{entered(api.Outer, 3, 1706, answer(1, 2))}, 1707, []int{1, 2}},
		{[]api.Entered{entered(api.Inner, 3, 1705, answer(1, 2))}, 1706, []int{1, 2}},
		{[]api.Entered{entered(api.Inner, 3, 1702, answer(2, 2))}, 1706, []int{1, 0}},
		{[]api.Entered{entered(api.Outer, 3, 1705, answer(1, 2)), entered(api.Outer, 4, 1706, back(3))}, 1706, []int{1, 2}},
		{[]api.Entered{entered(api.Outer, 3, 1705, answer(1, 2)), entered(api.Outer, 4, 1707, back(3))}, 1706, []int{0, 2}},
		// Rulings, whether a claim was granted, answered or neither.
		{[]api.Entered{entered(api.Diocese, 90, 1703, ruling(1, 2, 2))}, 1706, []int{2, 2}},
		{[]api.Entered{entered(api.Diocese, 90, 1703, ruling(1, 2, 2))}, 1703, []int{2, 0}},
		{[]api.Entered{entered(api.Diocese, 90, 1703, ruling(1, 2, 1))}, 1703, []int{1, 0}},
		{[]api.Entered{entered(api.Diocese, 90, 1703, ruling(1, 2, 2))}, 1702, []int{0, 0}},
		{[]api.Entered{entered(api.Diocese, 90, 1706, ruling(1, 2, 1)), entered(api.Outer, 3, 1705, answer(1, 2))}, 1706, []int{1, 2}},
		{[]api.Entered{entered(api.Diocese, 90, 1706, ruling(1, 2, 2)), entered(api.Outer, 3, 1705, answer(1, 2))}, 1706, []int{2, 2}},
		// The ruling with the last line counts, whenever it was written.
		{[]api.Entered{entered(api.Diocese, 91, 1702, ruling(1, 2, 2)), entered(api.Diocese, 90, 1703, ruling(1, 2, 1))}, 1706, []int{2, 2}},
		{[]api.Entered{entered(api.Diocese, 90, 1702, ruling(1, 2, 2)), entered(api.Diocese, 91, 1703, ruling(1, 2, 1))}, 1706, []int{1, 2}},
		{[]api.Entered{entered(api.Diocese, 90, 1702, ruling(1, 2, 2)), entered(api.Diocese, 91, 1703, ruling(1, 2, 3))}, 1706, []int{2, 2}},
	} {
		r := folded(t, with(land(), with(x.more, inner, outer)...), x.known)
		want := []api.Claimed{{ID: 1002, Vestry: 1, Claim: api.Claim{Field: 4, Year: 1702, Until: 1705}, Holder: x.want[0]}, {ID: 2002, Vestry: 2, Claim: api.Claim{Field: 6, Year: 1702, Until: 1703}, Holder: x.want[1]}}
		if !slices.Equal(r.Claims, want) {
			t.Errorf("P9.3: the claims %d are %v in %d, not %v", i, r.Claims, x.known, want)
		}
	}
	if r := folded(t, with(land(), inner), 1706); !slices.Equal(holders(r), []int{1}) {
		t.Errorf("P9.3: the holders are %v", holders(r))
	}
}

func TestFold(t *testing.T) {
	more := inBook(api.Inner, 1, proof(1, 1705, 10000, 10000), seen(3, 1710, box(0, 4, 399, 401)), note(3, api.GaSame, 1700, 1720), rule(1700, 1710, "p."), claim(5, 1703, 1800), paid(4, 1701, 2, 7), walked(3, 1711), witness(9, 4, 4))
	r := folded(t, with(more, land()...), 1700)
	at3 := func(id, year, lo, hi int) api.Sight {
		s := sight(year, box(0, 4, lo, hi))
		s.ID = id
		return s
	}
	want := []api.Sight{at3(6, 1700, 395, 405), at3(1002, 1710, 399, 401), at3(7, 1720, 395, 405)}
	if p := r.Parish; !slices.Equal(p.Stones[2].Life.Sights, want) || p.Stones[2].Number != 3 || !slices.Equal(p.Stones[2].Life.Notes, []api.Note{{ID: 1003, Kind: api.GaSame, From: 1700, To: 1720}}) {
		t.Errorf("P9.3: the stone 3 is %v", p.Stones[2])
	}
	if w := r.Parish.Works; !slices.Equal(w.Proofs, []api.Proof{{ID: 1001, Chain: 1, Year: 1705, Long: span(10000, 10000)}}) || len(w.Chains) != 1 {
		t.Errorf("P9.3: the works are %v", w)
	}
	if len(r.Customs) != 1 || r.Customs[0].ID != 1004 || r.Customs[0].From != 1700 || r.Customs[0].To != 1710 || !same(r.Customs[0].Clauses, clauses("p.")) {
		t.Errorf("P9.3: the customs are %v", r.Customs)
	}
	if !slices.Equal(r.Told, []api.Told{{Walk: 12, Witness: 1}, {Walk: 1007, Witness: 3}}) || len(r.Parish.Walks) != 2 || r.Parish.Walks[1].ID != 1007 {
		t.Errorf("P9.3: the walks are %v, told by %v", r.Parish.Walks, r.Told)
	}
	if !slices.Equal(r.Witnesses, []api.Witness{{ID: 1, Right: 8}, {ID: 2}, {ID: 3, Wrong: 2}, {ID: 9, Right: 4, Wrong: 4}}) || !slices.Equal(r.Paid, []api.Paid{{Field: 4, Year: 1701, Vestry: 2, Pence: 7}}) {
		t.Errorf("P9.3: the witnesses are %v, and what was paid %v", r.Witnesses, r.Paid)
	}
	if !slices.Equal(r.Fields, []api.Field{{Number: 4, At: at(100, 100), Pence: 50}, {Number: 6, At: at(-1, 5), Pence: 30}, {Number: 5, At: at(0, 200), Pence: 20}}) || len(r.Refused) != 0 || !slices.Equal(r.Parish.Ring, []int{1, 2, 3}) {
		t.Errorf("P9.3: the fields are %v, the ring is %v, and %v are refused", r.Fields, r.Parish.Ring, r.Refused)
	}
	if e := walk.Check(r.Parish); e != api.OK || register.Check(r) != api.OK {
		t.Errorf("P9.14: the error of the parish is %d, that of the register %d", e, register.Check(r))
	}
}

func TestRefusedInTheOrderOfTheSteps(t *testing.T) {
	wrong := []api.Entry{
		ruling(9, 9, 1), answer(1, 9), claim(9, 1700, 1700), rule(1700, 1710, "p"), paid(9, 1700, 1, 1), field(0, 0, 0, 0), walked(9, 1700), witness(0, 0, 0),
		bounds(0, 1), note(9, 0, 0, 0), seen(9, 1700, box(0, 0, 0, 0)), stone(0, 1700, box(0, 0, 0, 0)), proof(9, 1700, 10000, 10000), repair(9, 1700, 10000, 10000), chain(0, 0, 0, 0, 0),
	}
	l := with(inBook(api.Outer, 1, wrong...), inBook(api.Diocese, 1, wrong...)...)
	var want []api.Refused
	// The steps: chains, repairs, proofs, and so on; each time that of the diocese first.
	for _, line := range []int{15, 14, 13, 12, 11, 10, 9, 8, 7, 6, 5, 4, 3, 2, 1} {
		one := []api.Errno{0, api.ErrNone, api.ErrNone, api.ErrNone, api.ErrForm, api.ErrNone, api.ErrArg, api.ErrNone, api.ErrArg, api.ErrLimit, api.ErrNone, api.ErrNone, api.ErrArg, api.ErrArg, api.ErrArg, api.ErrArg}[line]
		two := one
		switch line {
		case 1:
			two = api.ErrArg // a ruling of a parish
		case 3:
			one = api.ErrArg // a claim of the diocese
		}
		want = append(want, api.Refused{Name: name(0, line), Err: one}, api.Refused{Name: name(2, line), Err: two})
	}
	if r := folded(t, l, 1700); !slices.Equal(r.Refused, want) {
		t.Errorf("P9.3: %v are refused, not %v", r.Refused, want)
	}
}
