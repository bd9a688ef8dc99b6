package credit_test

import (
	"math"
	"math/rand/v2"
	"slices"
	"testing"

	"boundstone/api"
	"boundstone/credit"
)

// slowMinimal returns the sets of a family of which no other one is a part, by the words of the chapter.
func slowMinimal(family [][]int) [][]int {
	var l [][]int
	for _, set := range family {
		others := func(other []int) bool { return !slices.Equal(other, set) && has(set, other) }
		known := func(other []int) bool { return slices.Equal(other, set) }
		if !slices.ContainsFunc(family, others) && !slices.ContainsFunc(l, known) {
			l = append(l, set)
		}
	}
	return inOrder(l)
}

// randomFamily returns a family of sets of at most 8 different members.
func randomFamily(r *rand.Rand) [][]int {
	members := r.Perm(64)[:1+r.IntN(8)]
	most := 1 + r.IntN(len(members))
	var family [][]int
	for range r.IntN(12) {
		var set []int
		for _, i := range r.Perm(len(members))[:min(r.IntN(20)+1, 1+r.IntN(most))] {
			set = append(set, members[i]+1)
		}
		slices.Sort(set)
		if r.IntN(60) == 0 {
			set = nil
		}
		family = append(family, set)
	}
	return family
}

// upTo returns the set of the numbers 1 to n.
func upTo(n int) []int {
	var l []int
	for i := range n {
		l = append(l, i+1)
	}
	return l
}

func TestFamilies(t *testing.T) {
	for _, x := range []struct{ family, minimal, hitting [][]int }{
		{[][]int{{1, 2}, {2, 3}}, [][]int{{1, 2}, {2, 3}}, [][]int{{2}, {1, 3}}},
		{[][]int{{1}, {2}}, [][]int{{1}, {2}}, [][]int{{1, 2}}},
		{[][]int{{1, 2}, {2}, {1, 2, 3}}, [][]int{{2}}, [][]int{{2}}},
		{nil, nil, [][]int{nil}},
		{[][]int{nil}, [][]int{nil}, nil},
		{[][]int{{4, 7}, {}}, [][]int{nil}, nil},
		{[][]int{{}, {}, {1}}, [][]int{nil}, nil},
		{[][]int{{64}}, [][]int{{64}}, [][]int{{64}}},
		{[][]int{{3, 4}, {3, 4}, {1, 64}, {3, 4}}, [][]int{{1, 64}, {3, 4}}, [][]int{{1, 3}, {1, 4}, {3, 64}, {4, 64}}},
		{[][]int{{2, 10}, {9}, {2, 3, 4}}, [][]int{{9}, {2, 10}, {2, 3, 4}}, [][]int{{2, 9}, {3, 9, 10}, {4, 9, 10}}},
		{[][]int{upTo(8)}, [][]int{upTo(8)}, [][]int{{1}, {2}, {3}, {4}, {5}, {6}, {7}, {8}}},
		{[][]int{{1, 2}, {3, 4}, {1, 3}}, [][]int{{1, 2}, {1, 3}, {3, 4}}, [][]int{{1, 3}, {1, 4}, {2, 3}}},
	} {
		if l, e := credit.Minimal(x.family); e != api.OK || !sameSets(l, x.minimal) {
			t.Errorf("P7.9: Minimal of %v is %v, %d, not %v", x.family, l, e, x.minimal)
		}
		if l, e := credit.Hitting(x.family); e != api.OK || !sameSets(l, x.hitting) {
			t.Errorf("P7.9: Hitting of %v is %v, %d, not %v", x.family, l, e, x.hitting)
		}
	}
}

func TestRandomFamilies(t *testing.T) {
	r := newRand(7, 9)
	sizes := [9]int{}
	for range 2000 {
		family := randomFamily(r)
		before := slices.Clone(family)
		least, e := credit.Minimal(family)
		if want := slowMinimal(family); e != api.OK || !sameSets(least, want) {
			t.Fatalf("P7.9: Minimal of %v is %v, %d, not %v", family, least, e, want)
		}
		elements := slices.Concat(family...)
		slices.Sort(elements)
		elements = slices.Compact(elements)
		got, e := credit.Hitting(family)
		if want := slowHitting(family, elements); e != api.OK || !sameSets(got, want) {
			t.Fatalf("P7.9: Hitting of %v is %v, %d, not %v", family, got, e, want)
		}
		again, e := credit.Hitting(got)
		if e == api.OK && !sameSets(again, least) {
			t.Fatalf("P7.10: Hitting of Hitting of %v is %v, %d, not %v", family, again, e, least)
		}
		for _, set := range got {
			sizes[len(set)]++
			if !credit.Hits(set, family) {
				t.Fatalf("P7.9: %v does not hit %v", set, family)
			}
		}
		if !sameSets(family, before) {
			t.Fatalf("R6: the family %v becomes %v", before, family)
		}
	}
	if min(sizes[0], sizes[1], sizes[2], sizes[3], sizes[4]) < 50 || sizes[5] == 0 {
		t.Errorf("P7.9: these families test little: %v", sizes)
	}
}

func TestLargeFamilies(t *testing.T) {
	var most [][]int // 80 sets: all of 4 of 8, and some larger ones
	for _, set := range subsets(upTo(8)) {
		if len(set) >= 4 && len(most) < 80 && (len(set) == 4 || len(set) > 6) {
			most = append(most, set)
		}
	}
	for _, set := range subsets(upTo(8)) {
		if len(set) == 6 && len(most) < 80 {
			most = append(most, set)
		}
	}
	if l, e := credit.Hitting(most); len(most) != 80 || e != api.OK || !sameSets(l, slowHitting(most, upTo(8))) || len(l) != 56 {
		t.Errorf("P7.9: Hitting of %d sets is %v, %d", len(most), l, e)
	}
	if l, e := credit.Minimal(most); e != api.OK || len(l) != 70 || !sameSets(l, slowMinimal(most)) {
		t.Errorf("P7.9: Minimal of 80 sets is %v, %d", l, e)
	}
	wide := slices.Repeat([][]int{upTo(64)}, 80)
	if l, e := credit.Minimal(wide); e != api.OK || !sameSets(l, wide[:1]) {
		t.Errorf("P7.9: Minimal of 80 times the same set is %v, %d", l, e)
	}
	var all [][]int // the largest sets first, so that each one misses what was chosen of the others
	for _, set := range slices.Backward(inOrder(subsets(upTo(8)))) {
		all = append(all, set)
	}
	if l, e := credit.Hitting(all[:80]); e != api.OK || !sameSets(l, slowHitting(all[:80], upTo(8))) {
		t.Errorf("P7.9: Hitting of the 80 largest sets is %v, %d", l, e)
	}
}

func TestErrorsOfFamilies(t *testing.T) {
	for _, x := range []struct {
		family           [][]int
		minimal, hitting api.Errno
	}{
		{[][]int{{2, 1}}, api.ErrArg, api.ErrArg},
		{[][]int{{1}, {2, 2}}, api.ErrArg, api.ErrArg},
		{[][]int{{1}, {1, 3, 2}}, api.ErrArg, api.ErrArg},
		{[][]int{{0}}, api.ErrArg, api.ErrArg},
		{[][]int{{0, 1}}, api.ErrArg, api.ErrArg},
		{[][]int{{-1, 5}}, api.ErrArg, api.ErrArg},
		{[][]int{{5, 65}}, api.ErrArg, api.ErrArg},
		{[][]int{{65}, {1}}, api.ErrArg, api.ErrArg},
		{[][]int{{math.MinInt64}}, api.ErrArg, api.ErrArg},
		{[][]int{{1, math.MaxInt64}}, api.ErrArg, api.ErrArg},
		{[][]int{nil, {0}}, api.ErrArg, api.ErrArg},
		{[][]int{upTo(9)}, api.OK, api.ErrLimit},
		{[][]int{{1, 2, 3, 4, 5}, {60, 61, 62, 64}}, api.OK, api.ErrLimit},
		{[][]int{{1, 2, 3, 4, 5}, {4, 5, 60, 61, 62}}, api.OK, api.OK},
		{[][]int{upTo(9), {}}, api.OK, api.ErrLimit},
		{[][]int{upTo(9), {0}}, api.ErrArg, api.ErrArg},
		{[][]int{upTo(65)}, api.ErrArg, api.ErrArg},
		{slices.Repeat([][]int{{1}}, 80), api.OK, api.OK},
		{slices.Repeat([][]int{{1}}, 81), api.ErrLimit, api.ErrLimit},
		{slices.Repeat([][]int{{0}}, 81), api.ErrLimit, api.ErrLimit},
		{slices.Repeat([][]int{{}}, 81), api.ErrLimit, api.ErrLimit},
	} {
		l, e := credit.Minimal(x.family)
		wantError(t, "P7.9: Minimal", x.minimal, l, e)
		l, e = credit.Hitting(x.family)
		wantError(t, "P7.9: Hitting", x.hitting, l, e)
	}
}

func TestHits(t *testing.T) {
	for _, x := range []struct {
		set    []int
		family [][]int
		want   bool
	}{
		{nil, nil, true},
		{[]int{3}, nil, true},
		{nil, [][]int{{1}}, false},
		{nil, [][]int{nil}, false},
		{[]int{1, 2}, [][]int{{1}, nil}, false},
		{[]int{2}, [][]int{{1, 2}, {2, 3}}, true},
		{[]int{3}, [][]int{{1, 2}, {2, 3}}, false},
		{[]int{1, 3}, [][]int{{1, 2}, {2, 3}}, true},
		{[]int{9, -5, 9, 0}, [][]int{{-5, -5}, {7, 0}, {3, 9, 1}}, true},
		{[]int{9, -5, 9, 0}, [][]int{{-5, -5}, {7, 1}, {3, 9, 1}}, false},
		{[]int{math.MinInt64, math.MaxInt64}, slices.Repeat([][]int{{0, math.MaxInt64}, {math.MinInt64}}, 100), true},
		{upTo(100), [][]int{{100}, {1}, {50, 200}}, true},
		{upTo(100), [][]int{{100}, {1}, {101, 200}}, false},
	} {
		if is := credit.Hits(x.set, x.family); is != x.want {
			t.Errorf("P7.9: Hits of %v and %v is %v", x.set, x.family, is)
		}
	}
	r := newRand(7, 91)
	n := map[bool]int{}
	for range 3000 {
		list := func() []int {
			var l []int
			for range r.IntN(6) {
				l = append(l, r.IntN(8)-2)
			}
			return l
		}
		set, family := list(), [][]int(nil)
		for range r.IntN(4) {
			family = append(family, list())
		}
		is := credit.Hits(set, family)
		if is != slowHits(set, family) {
			t.Fatalf("P7.9: Hits of %v and %v is %v", set, family, is)
		}
		n[is]++
	}
	if min(n[true], n[false]) < 500 {
		t.Errorf("P7.9: these lists test little: %v", n)
	}
}

func TestFamiliesShareNoMemory(t *testing.T) {
	family := [][]int{append(make([]int, 0, 9), 1, 2), append(make([]int, 0, 9), 2, 3), {1, 3}}
	least, _ := credit.Minimal(family)
	shareNothing(t, append(least, family...)...)
	family = [][]int{{1, 2}, {2, 3}, {1, 3}}
	hitting, _ := credit.Hitting(family)
	shareNothing(t, append(hitting, family...)...)
}
