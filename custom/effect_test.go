package custom_test

import (
	"fmt"
	"math/rand/v2"
	"slices"
	"testing"

	"boundstone/api"
	"boundstone/custom"
)

// orchard has customs of 1700, of which one is changed in 1715.
func orchard() []api.Custom {
	return []api.Custom{
		rule(3, 1700, lastYear, "takes(F, V) if side(F, V), not held(F)."),
		rule(5, 1715, 1730, "held(F) if orchard(F). takes(F, V) if orchard(F), stream(V)."),
		rule(8, 1720, lastYear, "stream(V) if mill(V)."),
	}
}

const orchardBase = "side(4, 1); side(6, 2); orchard(4); mill(2)"

func TestRests(t *testing.T) {
	for _, c := range []struct {
		year int
		a    string
		want []int
	}{
		{1699, "takes(4, 1)", nil},
		{1710, "takes(4, 1)", []int{3}},
		{1715, "takes(4, 1)", []int{5}}, // it holds only without the custom 5
		{1715, "takes(4, 2)", nil},
		{1720, "takes(4, 2)", []int{5, 8}},
		{1720, "takes(4, 1)", []int{5}},
		{1720, "takes(6, 2)", []int{3}},
		{1731, "takes(4, 1)", []int{3}},
		{1731, "stream(2)", []int{8}},
		{1720, "mill(2)", nil},
		{1720, "other(2)", nil},
	} {
		ids, e := custom.Rests(orchard(), atoms(orchardBase), c.year, pattern(c.a))
		if e != api.OK || !slices.Equal(ids, c.want) {
			t.Errorf("P8.9: Rests of %s in %d is %v, %d, not %v", c.a, c.year, ids, e, c.want)
		}
	}
	// Either of two customs will do.
	two := []api.Custom{rule(1, 0, 9, "p."), rule(2, 0, 9, "p."), rule(3, 0, 9, "q if p."), rule(4, 10, 19, "q.")}
	if ids, e := custom.Rests(two, nil, 5, pattern("q")); e != api.OK || !slices.Equal(ids, []int{3}) {
		t.Errorf("P8.9: Rests of what follows from either of two customs is %v, %d", ids, e)
	}
}

func TestEffect(t *testing.T) {
	for _, c := range []struct {
		year, id      int
		with, without string
	}{
		{1710, 3, "takes(4, 1); takes(6, 2)", ""},
		{1710, 5, "", ""},
		{1715, 5, "held(4)", "takes(4, 1)"},
		{1720, 5, "held(4); takes(4, 2)", "takes(4, 1)"},
		{1720, 8, "stream(2); takes(4, 2)", ""},
		{1731, 5, "", ""},
		{1731, 8, "stream(2)", ""},
	} {
		with, without, e := custom.Effect(orchard(), atoms(orchardBase), c.year, c.id)
		if e != api.OK || !sameAtoms(with, atoms(c.with)) || !sameAtoms(without, atoms(c.without)) {
			t.Errorf("P8.9: Effect of %d in %d is %v, %v, %d", c.id, c.year, with, without, e)
		}
	}
}

// less returns the atoms of a list that are not in another one.
func less(l, others []api.Atom) []api.Atom {
	return slices.DeleteFunc(slices.Clone(l), func(a api.Atom) bool { return hasAtom(others, a) })
}

// layered returns customs on which much depends.
func layered(r *rand.Rand) []api.Custom {
	var l []api.Custom
	for i := range 1 + r.IntN(6) {
		c := api.Custom{ID: i + 1, From: r.IntN(5), To: 5 + r.IntN(9)}
		for range 1 + r.IntN(2) {
			c.Clauses = append(c.Clauses, clauses(pick(r, "a(X) if d(X).", "b(X) if d(X), not a(X).", "c(X) if b(X).", "c(X) if d(X), not b(X).", "d(b).", "a(Y) if d(X, Y).", "c(X) if d(X), not a(X), not b(X).", "b(X) if d(X, X)."))...)
		}
		l = append(l, c)
	}
	return l
}

func TestRandomEffects(t *testing.T) {
	r := newRand(8, 14)
	n, rests := map[string]int{}, 0
	for range 1000 {
		l, year := pick(r, layered(r), layered(r), validCustoms(r)), r.IntN(14)
		base := append(randomBase(r), atoms("d(1); d(0, a)")...)
		whole := slowModel(slowForce(l, year), base)
		a := pick(r, append(whole, randomAtom(r, "abcd"), randomAtom(r, "abcd"))...)
		var want []int
		for i, c := range l {
			other := slowModel(slowForce(slices.Delete(slices.Clone(l), i, i+1), year), base)
			with, without, e := custom.Effect(l, base, year, c.ID)
			if e != api.OK || !sameAtoms(with, less(whole, other)) || !sameAtoms(without, less(other, whole)) {
				t.Fatalf("P8.9: Effect of %d in %v with %v in %d is %v, %v, %d", c.ID, l, base, year, with, without, e)
			}
			n["with"] += min(1, len(with))
			n["without"] += min(1, len(without))
			if hasAtom(whole, a) != hasAtom(other, a) {
				want = append(want, c.ID)
			}
		}
		ids, e := custom.Rests(l, base, year, a)
		if e != api.OK || !slices.Equal(ids, want) {
			t.Fatalf("P8.9: Rests of %v in %v with %v in %d is %v, %d, not %v", a, l, base, year, ids, e, want)
		}
		rests += min(1, len(ids))
	}
	if min(n["with"], n["without"], rests) < 60 {
		t.Errorf("P8.9: these customs test little: %v, %d", n, rests)
	}
}

func TestErrorsOfEffects(t *testing.T) {
	base := counted(100)
	a := pattern("q(0)")
	large := []api.Custom{
		rule(2, 0, 9, "p(X) if q(X), not s. s if u. s if t."),
		rule(4, 3, 9, "t."),
		rule(6, 3, 9, "r(X) if q(X)."),
		rule(8, 5, 9, "u."),
		rule(9, 7, 9, "v(X, Y) if q(X), q(Y)."),
	}
	for _, c := range []struct {
		year, id      int
		rests, effect api.Errno
	}{
		{2, 2, api.OK, api.OK},
		{2, 9, api.OK, api.OK}, // it is not in force
		{3, 4, api.OK, api.OK}, // in all 202 atoms, without the custom 4 300
		{3, 2, api.OK, api.OK},
		{5, 4, api.OK, api.OK}, // t or u will do
		{7, 4, api.ErrLimit, api.ErrLimit},
		{7, 9, api.ErrLimit, api.ErrLimit}, // the model with it is too large
		{10, 4, api.OK, api.OK},
	} {
		ids, e := custom.Rests(large, base, c.year, a)
		wantError(t, fmt.Sprint("P8.9: Rests in ", c.year), c.rests, ids, e)
		with, without, e := custom.Effect(large, base, c.year, c.id)
		wantError(t, fmt.Sprint("P8.9: Effect of ", c.id, " in ", c.year), c.effect, with, without, e)
	}
	// Without the custom 4 there is one atom too many.
	large[2].Clauses = clauses("r(X) if q(X). w.")
	wantError(t, "P8.9: Rests", api.ErrLimit, all(custom.Rests(large, base, 3, a))...)
	wantError(t, "P8.9: Effect", api.ErrLimit, all(custom.Effect(large, base, 3, 4))...)
	wantError(t, "P8.9: Effect", api.OK, all(custom.Effect(large, base, 3, 6))[2])
	for want, bases := range wrongBases() {
		for _, base := range bases {
			wantError(t, "P8.9: Rests", want, all(custom.Rests(large, base, 7, api.Atom{}))...)
			wantError(t, "P8.9: Effect", want, all(custom.Effect(large, base, 7, 4))...)
			wantError(t, "P8.9: Effect", api.ErrNone, all(custom.Effect(large, base, 7, 5))...)
		}
	}
	for _, id := range []int{0, -1, 3, 10} {
		wantError(t, "P8.9: Effect", api.ErrNone, all(custom.Effect(large, base, 3, id))...)
	}
	for _, a := range append(wrongAtoms(), pattern("p(X)")) {
		wantError(t, "P8.9: Rests", api.ErrArg, all(custom.Rests(large, base, 7, a))...) // ahead of the size of the model
		wantError(t, "P8.9: Rests", api.ErrArg, all(custom.Rests(nil, nil, 7, a))...)
	}
}
