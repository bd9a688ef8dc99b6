package register_test

import (
	"fmt"
	"math"
	"math/rand/v2"
	"slices"
	"testing"

	"boundstone/api"
	"boundstone/register"
)

// namesOf returns the names of entries.
func namesOf(l []api.Entered) []api.Name {
	var names []api.Name
	for _, x := range l {
		names = append(names, x.Name)
	}
	return names
}

func TestEffective(t *testing.T) {
	w := witness(1, 0, 0)
	for i, x := range []struct {
		l     []api.Entered
		known int
		want  []api.Name
	}{
		{nil, 1700, nil},
		{[]api.Entered{entered(0, 1, 1700, w)}, 1700, names(0, 1)},
		{[]api.Entered{entered(0, 1, 1700, w)}, 1699, nil},
		{[]api.Entered{entered(0, 1, 0, w)}, 0, names(0, 1)},
		{[]api.Entered{entered(0, 1, 0, w)}, -1, nil},
		{[]api.Entered{entered(0, 1, lastYear, w)}, math.MaxInt64, names(0, 1)},
		{[]api.Entered{entered(0, 1, 0, w)}, math.MinInt64, nil},
		{[]api.Entered{entered(2, 1, 1700, w), entered(1, 9, 1700, w), entered(0, 400, 1700, w), entered(1, 2, 1700, w)}, 1700, []api.Name{name(0, 400), name(1, 2), name(1, 9), name(2, 1)}},
		// What is taken back, from the year on in which that was written, by the same book.
		{[]api.Entered{entered(1, 3, 1700, w), entered(1, 4, 1705, back(3))}, 1704, []api.Name{name(1, 3)}},
		{[]api.Entered{entered(1, 3, 1700, w), entered(1, 4, 1705, back(3))}, 1705, nil},
		{[]api.Entered{entered(1, 3, 1700, w), entered(2, 4, 1705, back(3)), entered(0, 4, 1705, back(3))}, 1710, []api.Name{name(1, 3)}},
		{[]api.Entered{entered(1, 3, 1700, w), entered(1, 5, 1700, w), entered(1, 4, 1705, back(5))}, 1705, []api.Name{name(1, 3)}},
		// What takes back may stand ahead of it, in the list, in the book and in time.
		{[]api.Entered{entered(1, 1, 1650, back(3)), entered(1, 3, 1700, w)}, 1705, nil},
		{[]api.Entered{entered(1, 3, 1700, w), entered(1, 1, 1705, back(3)), entered(1, 2, 1700, back(3))}, 1701, nil},
		// What takes back can neither be taken back, nor count.
		{[]api.Entered{entered(1, 3, 1700, w), entered(1, 4, 1705, back(3)), entered(1, 5, 1706, back(4))}, 1710, nil},
		{[]api.Entered{entered(1, 3, 1700, back(3))}, 1710, nil},
		{[]api.Entered{entered(1, 3, 1700, back(9))}, 1710, nil},
		// What stands there several times counts once.
		{[]api.Entered{entered(1, 3, 1700, w), entered(1, 3, 1700, w), entered(0, 3, 1700, w), entered(1, 3, 1700, w)}, 1710, []api.Name{name(0, 3), name(1, 3)}},
		{[]api.Entered{entered(0, 1, 1700, bounds(0)), entered(0, 1, 1700, api.Entry{Kind: api.EnBounds, Ring: []int{}})}, 1710, names(0, 1)},
	} {
		got, e := register.Effective(x.l, x.known)
		if e != api.OK || !slices.Equal(namesOf(got), x.want) {
			t.Errorf("P9.3: Effective of the list %d, %v, in %d has %v, %d, not %v", i, x.l, x.known, namesOf(got), e, x.want)
		}
		for _, y := range got {
			if !slices.ContainsFunc(x.l, func(z api.Entered) bool { return same(y, z) }) {
				t.Errorf("P9.3: Effective of %v has %v", x.l, y)
			}
		}
	}
}

// listed returns so many elements with so many different names.
func listed(n, different int) []api.Entered {
	var l []api.Entered
	for i := range n {
		l = append(l, entered(i%different%3, 1+i%different/3, 1700, witness(1, 0, 0)))
	}
	return l
}

func TestErrorsOfEffective(t *testing.T) {
	w, odd := entered(0, 1, 1700, witness(1, 0, 0)), entered(0, 2, 1700, api.Entry{Kind: 17})
	nowhere, other := entered(3, 1, 1700, witness(1, 0, 0)), entered(0, 1, 1701, witness(1, 0, 0))
	for i, x := range []struct {
		l    []api.Entered
		want api.Errno
	}{
		{listed(360, 120), api.OK},
		{listed(361, 120), api.ErrLimit},
		{with(listed(360, 120), odd), api.ErrLimit},
		{with(listed(360, 120), nowhere), api.ErrLimit},
		{listed(120, 120), api.OK},
		{listed(121, 121), api.ErrLimit},
		{with(listed(121, 121), odd), api.ErrArg},
		{with(listed(121, 121), w, other), api.ErrTwice},
		{with(listed(119, 119), w, w), api.OK},
		{[]api.Entered{nowhere}, api.ErrArg}, {[]api.Entered{entered(-1, 1, 1700, back(1))}, api.ErrArg}, {[]api.Entered{entered(math.MaxInt64, 1, 1700, back(1))}, api.ErrArg}, {[]api.Entered{entered(math.MinInt64, 1, 1700, back(1))}, api.ErrArg},
		{[]api.Entered{entered(0, 0, 1700, back(1))}, api.ErrArg}, {[]api.Entered{entered(0, -1, 1700, back(1))}, api.ErrArg}, {[]api.Entered{entered(2, lastLine+1, 1700, back(1))}, api.ErrArg}, {[]api.Entered{entered(2, lastLine, 1700, back(1))}, api.OK},
		{[]api.Entered{odd}, api.ErrArg},
		{[]api.Entered{w, other}, api.ErrTwice}, {[]api.Entered{other, w}, api.ErrTwice}, {[]api.Entered{w, entered(1, 1, 1700, witness(1, 0, 0)), other}, api.ErrTwice},
		{[]api.Entered{w, other, odd}, api.ErrArg}, {[]api.Entered{w, other, nowhere}, api.ErrArg},
		{[]api.Entered{w, entered(0, 1, 1700, witness(2, 0, 0))}, api.ErrTwice}, {[]api.Entered{w, entered(0, 1, 1700, back(2))}, api.ErrTwice},
		{[]api.Entered{w, entered(0, 1, 4000, witness(1, 0, 0))}, api.ErrTwice}, // also if it does not count
		{[]api.Entered{entered(0, 1, 1700, back(2)), entered(0, 1, 1700, back(3))}, api.ErrTwice},
		{[]api.Entered{entered(0, 1, 1700, bounds(0, 1, 2)), entered(0, 1, 1700, bounds(0, 1, 3))}, api.ErrTwice},
		{[]api.Entered{entered(0, 1, 1700, bounds(0, 1, 2)), entered(0, 1, 1700, bounds(0, 1, 2))}, api.OK},
		{[]api.Entered{entered(0, 1, 1700, walked(1, 1700, leg(1, 2, 0, 1700, 5, 0))), entered(0, 1, 1700, walked(1, 1700, leg(1, 2, 0, 1700, 5, 1)))}, api.ErrTwice},
		{[]api.Entered{entered(0, 1, 1700, walked(1, 1700, leg(1, 2, 0, 1700, 5, 0))), entered(0, 1, 1700, walked(1, 1700))}, api.ErrTwice},
	} {
		for known := range map[int]bool{1700: true, -5: true, 1 << 40: true} {
			wantError(t, fmt.Sprintf("P9.3: Effective of the list %d", i), x.want, ignoringLists(register.Effective(x.l, known))...)
			r, e := register.Fold(x.l, known)
			if x.want == api.OK {
				r = api.Register{}
			}
			wantError(t, fmt.Sprintf("P9.3: Fold of the list %d", i), x.want, r, e)
			if x.want == api.ErrArg || x.want == api.ErrLimit || x.want == api.ErrTwice {
				wantError(t, fmt.Sprintf("P9.11: Needs of the list %d", i), x.want, all(register.Needs(x.l, known, -1, -1))...)
			}
		}
	}
}

// ignoringLists returns the results of a call, the list only if there is an error.
func ignoringLists(l []api.Entered, e api.Errno) []any {
	if e == api.OK {
		l = nil
	}
	return []any{l, e}
}

func TestEachFieldTellsEntriesApart(t *testing.T) {
	for _, kind := range kinds {
		e := sample(kind)
		for i, other := range changedEntries(e) {
			l := []api.Entered{{Name: name(1, 1), Entry: e}, {Name: name(1, 1), Entry: other}}
			wantError(t, fmt.Sprintf("P9.3: Effective of an entry of the kind %d and another one (%d)", kind, i), api.ErrTwice, all(register.Effective(l, 0))...)
		}
	}
}

// slowEffective returns the entries that count, by asking for each one.
func slowEffective(l []api.Entered, known int) []api.Entered {
	var some []api.Entered
	for v := range 3 {
		for line := 1; line <= lastLine; line++ {
			i := slices.IndexFunc(l, func(x api.Entered) bool { return x.Name == name(v, line) })
			if i < 0 || l[i].Entry.Kind == api.EnBack || l[i].Entry.Written > known {
				continue
			}
			taken := slices.ContainsFunc(l, func(x api.Entered) bool {
				return x.Name.Vestry == v && x.Entry.Kind == api.EnBack && x.Entry.Written <= known && x.Entry.Target.Line == line
			})
			if !taken {
				some = append(some, l[i])
			}
		}
	}
	return some
}

func TestRandomEffective(t *testing.T) {
	r := newRand(9, 5)
	counted := map[int]int{}
	for range 1000 {
		var l []api.Entered
		for range r.IntN(12) {
			x := entered(r.IntN(3), 1+r.IntN(6), 1700+r.IntN(5), witness(1+r.IntN(9), 0, 0))
			if r.IntN(3) == 0 {
				x.Entry = in(1700+r.IntN(5), back(1+r.IntN(6)))
			}
			if i := slices.IndexFunc(l, func(y api.Entered) bool { return y.Name == x.Name }); i >= 0 {
				x = l[i]
			}
			l = append(l, x)
		}
		known := 1699 + r.IntN(7)
		got, e := register.Effective(l, known)
		if want := slowEffective(l, known); e != api.OK || !same(got, want) {
			t.Fatalf("P9.3: Effective of %v in %d is %v, %d, not %v", l, known, got, e, want)
		}
		counted[len(got)]++
		checkOrder(t, r, l, known)
	}
	if len(counted) < 6 {
		t.Errorf("P9.3: these lists test little: %v", counted)
	}
}

// checkOrder checks that the order of a list of entries, and repetitions, do not matter.
func checkOrder(t *testing.T, r *rand.Rand, l []api.Entered, known int) {
	t.Helper()
	other := slices.Clone(l)
	for range r.IntN(3) {
		if len(l) > 0 {
			other = append(other, l[r.IntN(len(l))])
		}
	}
	r.Shuffle(len(other), func(i, j int) { other[i], other[j] = other[j], other[i] })
	one, e := register.Fold(l, known)
	two, f := register.Fold(other, known)
	if e != api.OK || f != api.OK || !same(one, two) {
		t.Fatalf("P9.14: Fold in %d of %v is %v, %d, but in another order it is %v, %d", known, l, one, e, two, f)
	}
}
