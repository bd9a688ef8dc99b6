package walk_test

import (
	"math"
	"slices"
	"testing"

	"boundstone/api"
	"boundstone/walk"
)

func TestWith(t *testing.T) {
	w := api.Walk{ID: 7, Year: 1712, Legs: []api.Leg{leg(1, 2, -1, 1712, 30, 0)}, Offsets: []api.Offset{offset(1, 2, 3, false)}}
	want := rich()
	want.Walks = append(want.Walks, w)
	p, e := walk.With(rich(), w)
	if !sameParish(p, want) || e != api.OK {
		t.Errorf("P6.4: With is %v, %d, not %v", p, e, want)
	}
	p, e = walk.With(api.Parish{}, api.Walk{ID: 1})
	if !sameParish(p, api.Parish{Walks: []api.Walk{{ID: 1}}}) || e != api.OK {
		t.Errorf("P6.4: With of nothing is %v, %d", p, e)
	}
}

func TestErrorsOfWith(t *testing.T) {
	for i, x := range []struct {
		w api.Walk
		e api.Errno
	}{
		{api.Walk{}, api.ErrArg},
		{api.Walk{ID: 5, Year: 1710}, api.ErrTwice},
		{api.Walk{ID: 8, Year: lastYear + 1}, api.ErrArg},
		{api.Walk{ID: 1, Legs: make([]api.Leg, 11)}, api.ErrLimit},
		{api.Walk{ID: 1, Offsets: make([]api.Offset, 11)}, api.ErrLimit},
		{api.Walk{ID: 1, Year: 1712, Legs: []api.Leg{leg(1, 9, -1, 1712, 30, 0)}}, api.ErrNone},
		{api.Walk{ID: 1, Year: 1712, Legs: []api.Leg{leg(1, 2, -1, 1711, 30, 0)}}, api.ErrArg},
		{api.Walk{ID: 1, Year: 1699, Legs: []api.Leg{leg(1, 2, -1, 1699, 30, 0)}}, api.ErrArg},
		{api.Walk{ID: 1, Year: 1712, Offsets: []api.Offset{offset(1, 2, 2, true)}}, api.ErrArg},
	} {
		wantError(t, "P6.4: With a wrong walk", x.e, all(walk.With(rich(), x.w))...)
		if t.Failed() {
			t.Fatalf("P6.4: %d", i)
		}
	}
	wantError(t, "P6.4: With a walk too many", api.ErrLimit, all(walk.With(full(), api.Walk{ID: 1}))...)
	wantError(t, "P6.4: With a wrong walk too many", api.ErrLimit, all(walk.With(full(), api.Walk{}))...)
}

func TestWithout(t *testing.T) {
	for _, x := range []struct{ ids, left []int }{
		{nil, []int{5, 3, 8}}, {[]int{3}, []int{5, 8}}, {[]int{8, 5, 8}, []int{3}}, {[]int{3, 5, 8}, nil},
		{[]int{0, -1, 4, math.MaxInt64, math.MinInt64}, []int{5, 3, 8}}, {[]int{4, 5}, []int{3, 8}},
	} {
		want := rich()
		want.Walks = nil
		for _, w := range rich().Walks {
			if slices.Contains(x.left, w.ID) {
				want.Walks = append(want.Walks, w)
			}
		}
		p, e := walk.Without(rich(), x.ids)
		if !sameParish(p, want) || e != api.OK {
			t.Errorf("P6.4: Without %v is %v, %d, not %v", x.ids, p, e, want)
		}
	}
}

// TestParishesAreNew spoils all that a result has, and looks whether the argument has changed.
func TestParishesAreNew(t *testing.T) {
	for what, of := range map[string]func(p api.Parish) (api.Parish, api.Errno){
		"With":    func(p api.Parish) (api.Parish, api.Errno) { return walk.With(p, p.Walks[0]) },
		"Without": func(p api.Parish) (api.Parish, api.Errno) { return walk.Without(p, []int{77}) },
	} {
		p := rich()
		p.Works.Repairs = []api.Repair{{ID: 4, Chain: 1, Year: 1720, Made: span(10000, 10000)}}
		p.Stones[0].Life.Notes = []api.Note{{ID: 9, From: 1, To: 2}}
		if what == "With" {
			p.Walks = slices.Clone(p.Walks)[1:]
			p.Walks[0].ID = 1000
			w := copied(p).Walks[0]
			w.ID = 1
			before := copied(p)
			q, e := walk.With(p, w)
			last := q.Walks[len(q.Walks)-1]
			last.Legs[0], last.Offsets[0] = api.Leg{}, api.Offset{}
			if e != api.OK || w.Legs[0] == (api.Leg{}) || w.Offsets[0] == (api.Offset{}) || !sameParish(p, before) {
				t.Errorf("R6: the result of With shares memory with the walk")
			}
			of = func(p api.Parish) (api.Parish, api.Errno) { return walk.With(p, w) }
		}
		before := copied(p)
		q, e := of(p)
		if e != api.OK {
			t.Fatalf("P6.4: the error of %s is %d", what, e)
		}
		spoil(q)
		if !sameParish(p, before) {
			t.Errorf("R6: the result of %s shares memory with its argument", what)
		}
	}
}

// spoil changes an element of each list of a parish.
func spoil(p api.Parish) {
	p.Works.Chains[0], p.Works.Proofs[0], p.Works.Repairs[0] = api.Chain{}, api.Proof{}, api.Repair{}
	p.Stones[0].Life.Sights[0], p.Stones[0].Life.Notes[0] = api.Sight{}, api.Note{}
	p.Stones[0] = api.Marked{}
	p.Ring[0] = 0
	p.Walks[0].Legs[0], p.Walks[0].Offsets[0] = api.Leg{}, api.Offset{}
	p.Walks[0] = api.Walk{}
}
