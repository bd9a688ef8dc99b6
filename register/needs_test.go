package register_test

import (
	"slices"
	"testing"

	"boundstone/api"
	"boundstone/register"
)

func TestMoved(t *testing.T) {
	a := enlarged(t)
	for i, x := range []struct {
		more  []api.Entry
		years api.Span
		want  []int
	}{
		{nil, span(1700, 1739), nil},
		{[]api.Entry{rule(1710, 1710, "takes(F, 1) if field(F).")}, span(1710, 1710), []int{5, 6}}, {[]api.Entry{rule(1710, 1710, "takes(F, 1) if field(F).")}, span(1711, 1720), nil}, {[]api.Entry{rule(1710, 1710, "takes(F, 1) if field(F).")}, span(1700, 1710), []int{5, 6}}, {[]api.Entry{rule(1710, 1710, "takes(F, 1) if field(F).")}, span(1710, 1749), []int{5, 6}},
		{[]api.Entry{rule(1711, 1711, "takes(F, 1) if field(F)."), rule(1709, 1709, "takes(F, 2) if field(F).")}, span(1709, 1711), []int{4, 5, 6}},
		{[]api.Entry{rule(1710, 1710, "takes(F, 1) if side(F, 1). takes(5, 1). takes(5, 2). takes(6, 2).")}, span(1710, 1710), []int{5}}, // another error
		{[]api.Entry{field(2, 100, 100, 5)}, span(1710, 1710), []int{2}}, {[]api.Entry{field(2, 0, 200, 5)}, span(1710, 1710), nil},      // ErrNone without the field, and with it
		{[]api.Entry{field(2, 0, 200, 5), paid(2, 1710, 1, 1)}, span(1711, 1711), []int{2}}, {[]api.Entry{paid(5, 1709, 1, 1)}, span(1710, 1712), []int{5}},
	} {
		b := enlarged(t, x.more...)
		one, e := register.Moved(a, b, x.years)
		two, f := register.Moved(b, a, x.years)
		if e != api.OK || f != api.OK || !slices.Equal(one, x.want) || !slices.Equal(two, x.want) || !slices.Equal(slowMoved(a, b, x.years), x.want) {
			t.Errorf("P9.10: Moved of the register %d in %v is %v, %d, and the other way round %v, %d, not %v", i, x.years, one, e, two, f, x.want)
		}
	}
}

// Registers that differ in one thing alone, on which the side of the field 7 depends.
func TestMovedByOneThing(t *testing.T) {
	l := []api.Entry{stone(4, 1700, box(0, 0, 600, 600)), seen(4, 1720, box(0, 0, 600, 600)), field(7, 3, 399, 5), north(2, 405)}
	for i, x := range []struct {
		year   int
		change func(r *api.Register)
	}{
		{1710, func(r *api.Register) { r.Witnesses[0].Right, r.Witnesses[1].Right = 0, 8 }},
		{1710, func(r *api.Register) { r.Told[0].Witness, r.Told[1].Witness = 2, 1 }},
		{1710, func(r *api.Register) { r.Parish.Walks[0].Legs[0].Measure.Links = 4 }},
		{1710, func(r *api.Register) {
			r.Parish.Walks[0].ID, r.Parish.Walks[1].ID = r.Parish.Walks[1].ID, r.Parish.Walks[0].ID
		}},
		{1710, func(r *api.Register) { r.Parish.Ring[2] = 4 }},
		{1710, func(r *api.Register) { r.Parish.Ring = nil }},
		{1715, func(r *api.Register) { r.Parish.Stones[2].Number, r.Parish.Stones[3].Number = 4, 3 }},
		{1711, func(r *api.Register) {
			for k := range r.Parish.Stones[2].Life.Sights {
				r.Parish.Stones[2].Life.Sights[k].At = box(0, 0, 405, 405)
			}
		}},
		{1710, func(r *api.Register) { r.Fields[3].At.Y = 10 }},
	} {
		a, b := enlarged(t, l...), enlarged(t, l...)
		x.change(&b)
		for _, years := range []api.Span{span(x.year, x.year), span(x.year-1, x.year+1)} {
			fields, e := register.Moved(a, b, years)
			if want := slowMoved(a, b, years); e != api.OK || !slices.Equal(fields, want) || !slices.Contains(want, 7) {
				t.Errorf("P9.10: Moved of registers with the difference %d in %v is %v, %d, not %v", i, years, fields, e, want)
			}
		}
	}
}

func TestNeeds(t *testing.T) {
	// The field 4 lies inside by the sights of the stones and the bounds alone; the walk is needed for the field 7.
	l := with(land(), entered(2, 7, 1700, field(7, 1, 400, 5)))
	stones := []api.Name{name(0, 2), name(0, 3), name(0, 4), name(0, 5), name(0, 6), name(0, 7), name(0, 8)}
	for i, x := range []struct {
		more         []api.Entered
		number, year int
		want         []api.Name
	}{
		{nil, 4, 1711, append(slices.Clone(stones), name(0, 13))},
		{nil, 5, 1710, nil}, // it is open, with and without any entry
		{nil, 7, 1710, append([]api.Name{name(0, 1)}, append(slices.Clone(stones), name(0, 9), name(0, 12), name(2, 7))...)},
		{[]api.Entered{entered(1, 1, 1700, rule(1710, 1710, "takes(4, 2)."))}, 4, 1710, []api.Name{name(0, 13), name(1, 1)}},
		{[]api.Entered{entered(1, 1, 1700, rule(1710, 1710, "takes(F, 2) if field(F)."))}, 4, 1710, []api.Name{name(0, 13), name(1, 1)}},
		{[]api.Entered{entered(1, 1, 1700, claim(6, 1702, 1699)), entered(1, 2, 1700, paid(6, 1701, 2, 5))}, 6, 1710, []api.Name{name(0, 14), name(1, 1)}},
		{[]api.Entered{entered(1, 1, 1699, claim(6, 1702, 1699)), entered(2, 2, 1699, answer(1, 1)), entered(0, 50, 1700, ruling(1, 1, 1))}, 6, 1710, []api.Name{name(0, 14), name(0, 50), name(1, 1)}},
		{[]api.Entered{entered(1, 1, 1700, paid(5, 1709, 2, 5)), entered(1, 2, 1700, paid(5, 1709, 1, 2)), entered(1, 3, 1700, paid(5, 1709, 1, 2))}, 5, 1710, append(slices.Clone(stones), name(0, 15), name(1, 1))},
		{[]api.Entered{entered(1, 1, 1700, paid(5, 1709, 2, 5)), entered(1, 2, 1700, paid(5, 1709, 1, 3)), entered(1, 3, 1700, paid(5, 1709, 1, 2))}, 5, 1710, []api.Name{name(1, 1), name(1, 2), name(1, 3)}},
		// Without a field another one with its number counts, which was refused.
		{[]api.Entered{entered(1, 1, 1700, field(4, -5, 5, 1)), entered(1, 2, 1700, rule(1710, 1710, "takes(4, 2)."))}, 4, 1710, []api.Name{name(1, 2)}},
		{[]api.Entered{entered(1, 1, 1700, field(4, -5, 5, 1))}, 4, 1711, append(slices.Clone(stones), name(0, 13))},
		// What is taken back later is taken back no more; what takes back is not needed.
		{[]api.Entered{entered(1, 1, 1700, rule(1710, 1710, "takes(4, 2).")), entered(1, 2, 1701, back(1))}, 4, 1710, []api.Name{name(0, 13), name(1, 1)}},
		{[]api.Entered{entered(1, 1, 1700, rule(1710, 1710, "takes(4, 2).")), entered(1, 2, 1700, back(1)), entered(1, 3, 1700, rule(1710, 1710, "takes(4, 2)."))}, 4, 1710, []api.Name{name(0, 13), name(1, 3)}},
		{[]api.Entered{entered(1, 1, 1700, rule(1710, 1710, "takes(4, 2).")), entered(1, 1, 1700, rule(1710, 1710, "takes(4, 2)."))}, 4, 1710, []api.Name{name(0, 13), name(1, 1)}},
		{[]api.Entered{entered(1, 1, 1701, rule(1710, 1710, "takes(4, 2)."))}, 4, 1711, append(slices.Clone(stones), name(0, 13))},
	} {
		m := with(l, x.more...)
		slices.Reverse(m)
		names, e := register.Needs(m, 1700, x.number, x.year)
		if e != api.OK || !slices.Equal(names, x.want) || !slices.Equal(slowNeeds(m, 1700, x.number, x.year), x.want) {
			t.Errorf("P9.11: Needs %d of %d in %d is %v, %d, not %v", i, x.number, x.year, names, e, x.want)
		}
	}
}
