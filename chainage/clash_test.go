package chainage_test

import (
	"slices"
	"testing"

	"boundstone/api"
	"boundstone/chainage"
)

func TestClashOfExamples(t *testing.T) {
	c := chain(1, 1800, 10000, 10010, 5)
	other := chain(9, 1700, 10000, 10000, 0)
	mends := func(w api.Works) api.Works {
		return mended(mended(w, repair(20, 1, 1850, 10000, 10000)), repair(2, 1, 1820, 10000, 10000))
	}
	for i, x := range []struct {
		w        api.Works
		want     [][2]int
		suspects []int
	}{
		{api.Works{}, nil, nil},
		{example(), nil, nil},
		{full(), nil, nil},
		{plus(example(), proof(4, 1, 1804, 10022, 10025)), nil, nil},
		{plus(plus(example(), proof(4, 1, 1804, 10022, 10025)), proof(5, 1, 1802, 10025, 10026)), [][2]int{{0, 5}}, []int{5}},
		{plus(example(), proof(5, 1, 1802, 10020, 10026)), nil, nil},
		{plus(example(), proof(5, 1, 1802, 10021, 10026)), [][2]int{{0, 5}}, []int{5}},
		{plus(example(), proof(5, 1, 1800, 9999, 9999)), [][2]int{{0, 5}}, []int{5}},
		{plus(example(), proof(5, 1, 1800, 10011, 10011)), [][2]int{{0, 5}}, []int{5}},
		{plus(example(), proof(5, 1, 1810, 10031, 10031)), [][2]int{{3, 5}}, []int{3, 5}},
		{plus(example(), proof(2, 1, 1810, 10010, 10019)), [][2]int{{2, 3}}, []int{2, 3}},
		{plus(example(), proof(2, 1, 1810, 10010, 10020)), nil, nil},
		{plus(example(), proof(2, 1, 1809, 10031, 10031)), [][2]int{{2, 3}}, []int{2, 3}},
		{plus(example(), proof(2, 1, 1809, 10010, 10014)), [][2]int{{2, 3}}, []int{2, 3}},
		{plus(example(), proof(2, 1, 1809, 10010, 10015)), nil, nil},
		{plus(example(), proof(2, 1, 1811, 10036, 10040)), [][2]int{{2, 3}}, []int{2, 3}},
		{plus(example(), proof(2, 1, 1811, 10035, 10040)), nil, nil},
		{plus(example(), proof(2, 1, 1811, 9000, 9999)), [][2]int{{0, 2}, {2, 3}}, []int{2}},
		{one(c, proof(7, 1, 1801, 11000, 11000), proof(6, 1, 1801, 9000, 9000)), [][2]int{{0, 6}, {0, 7}, {6, 7}}, nil},
		{one(c, proof(7, 1, 1810, 10030, 10030), proof(6, 1, 1811, 10020, 10020), proof(5, 1, 1812, 10010, 10010)), [][2]int{{5, 6}, {5, 7}, {6, 7}}, nil},
		{one(c, proof(7, 1, 1810, 10030, 10030), proof(6, 1, 1811, 10020, 10020), proof(5, 1, 1812, 10020, 10020)), [][2]int{{5, 7}, {6, 7}}, []int{7}},
		// What contradicts each other in one spell does not in two.
		{one(c, proof(7, 1, 1819, 10050, 10050), proof(6, 1, 1820, 10010, 10010)), [][2]int{{6, 7}}, []int{6, 7}},
		{mends(one(c, proof(7, 1, 1819, 10050, 10050))), nil, nil},
		{mends(one(c, proof(7, 1, 1819, 10050, 10050), proof(6, 1, 1820, 10000, 10000))), nil, nil},
		{mends(one(c, proof(6, 1, 1820, 10010, 10010))), [][2]int{{2, 6}}, []int{2, 6}},
		{mends(one(c, proof(6, 1, 1849, 9000, 9000), proof(1, 1, 1851, 9000, 9000))), [][2]int{{1, 20}, {2, 6}}, nil},
		// Without the repair 2 the proof 7 contradicts the making.
		{mends(one(c, proof(7, 1, 1821, 10200, 10200))), [][2]int{{2, 7}}, []int{7}},
		// Without the repair 2 the proof 6 does not contradict the making, but the proof 7 as before.
		{mends(one(c, proof(7, 1, 1821, 10000, 10000), proof(6, 1, 1849, 10156, 10156))), [][2]int{{2, 6}, {6, 7}}, []int{6}},
		// The pairs stand in the order of the chains, and of the first ones for each of these.
		{api.Works{Chains: []api.Chain{other, c}, Proofs: []api.Proof{proof(3, 1, 1800, 9000, 9000), proof(8, 9, 1800, 9000, 9000), proof(4, 9, 1800, 12000, 12000)}}, [][2]int{{0, 4}, {0, 8}, {4, 8}, {0, 3}}, nil},
		{api.Works{Chains: []api.Chain{c, other}, Proofs: []api.Proof{proof(8, 9, 1800, 9000, 9000), proof(3, 1, 1800, 9000, 9000)}}, [][2]int{{0, 3}, {0, 8}}, nil},
		{clashing(), [][2]int{{4, 6}}, []int{4, 6}},
	} {
		l, e := chainage.Clashes(x.w)
		if !slices.Equal(l, x.want) || e != api.OK {
			t.Errorf("P4.5: Clashes %d is %v, %d, not %v", i, l, e, x.want)
		}
		one, two, is, e := chainage.Clash(x.w)
		if want := append(x.want, [2]int{})[0]; [2]int{one, two} != want || is != (len(x.want) > 0) || e != api.OK {
			t.Errorf("P4.5: Clash %d is %d, %d, %v, %d, not %v", i, one, two, is, e, want)
		}
		ids, e := chainage.Suspects(x.w)
		if !slices.Equal(ids, x.suspects) || e != api.OK {
			t.Errorf("P4.5: Suspects %d is %v, %d, not %v", i, ids, e, x.suspects)
		}
	}
}

// suspectsOf tries the possible lengths of all chains without each proof and repair.
func suspectsOf(w api.Works) []int {
	agree := func(w api.Works) bool {
		return !slices.ContainsFunc(w.Chains, func(c api.Chain) bool { return !hasLengths(w, c) })
	}
	if agree(w) {
		return nil
	}
	var l []int
	for _, id := range idsOf(w) {
		if agree(less(w, id)) {
			l = append(l, id)
		}
	}
	return l
}

func TestClashesOfRandomWorks(t *testing.T) {
	r := newRand(4, 5)
	pairs, suspects := map[bool]int{}, map[bool]int{}
	for range 200 {
		w, _ := randomWorks(r, 1+r.IntN(2), 3978, 10)
		want := pairsOf(w)
		l, e := chainage.Clashes(w)
		if !slices.Equal(l, want) || e != api.OK {
			t.Fatalf("P4.5: Clashes of %v is %v, %d, not %v", w, l, e, want)
		}
		one, two, is, e := chainage.Clash(w)
		if first := append(want, [2]int{})[0]; [2]int{one, two} != first || is != (len(want) > 0) || e != api.OK {
			t.Fatalf("P4.5: Clash of %v is %d, %d, %v, %d, not %v", w, one, two, is, e, first)
		}
		for _, c := range w.Chains {
			if len(want) == 0 && !hasLengths(w, c) {
				t.Fatalf("P4.5: no two things of %v contradict each other, but there are no lengths", w)
			}
		}
		ids, e := chainage.Suspects(w)
		if !slices.Equal(ids, suspectsOf(w)) || e != api.OK {
			t.Fatalf("P4.5: Suspects of %v is %v, %d, not %v", w, ids, e, suspectsOf(w))
		}
		pairs[len(l) > 0]++
		suspects[len(ids) > 0]++
	}
	if pairs[true] < 30 || pairs[false] < 30 || suspects[true] < 20 || pairs[true]-suspects[true] < 5 {
		t.Errorf("P4.5: these works test little: %v, %v", pairs, suspects)
	}
}

func TestPairs(t *testing.T) {
	r := newRand(4, 16)
	repairs := map[bool]int{}
	for range 3000 {
		w, _ := randomWorks(r, 1, 3970, 15)
		l, _ := chainage.Clashes(w)
		if len(l) == 0 {
			continue
		}
		ids, _ := chainage.Suspects(w)
		inAll := func(id int) bool {
			return !slices.ContainsFunc(l, func(pair [2]int) bool { return pair[0] != id && pair[1] != id })
		}
		for _, p := range w.Proofs {
			if slices.Contains(ids, p.ID) != inAll(p.ID) {
				t.Fatalf("P4.16: the proof %d stands in all pairs %v of %v, or not, but Suspects is %v", p.ID, l, w, ids)
			}
		}
		for _, x := range w.Repairs {
			is := slices.Contains(ids, x.ID)
			if is && !inAll(x.ID) {
				t.Fatalf("P4.16: the repair %d does not stand in all pairs %v of %v, but Suspects is %v", x.ID, l, w, ids)
			}
			if inAll(x.ID) {
				repairs[is]++
			}
		}
		for _, pair := range l {
			checkPair(t, w, pair)
		}
	}
	if repairs[true] == 0 || repairs[false] == 0 {
		t.Errorf("P4.16: these works test little: %v", repairs)
	}
}

// checkPair checks that two proofs contradict each other without all other ones.
func checkPair(t *testing.T, w api.Works, pair [2]int) {
	t.Helper()
	alone := w
	alone.Proofs = slices.DeleteFunc(slices.Clone(w.Proofs), func(p api.Proof) bool { return p.ID != pair[0] && p.ID != pair[1] })
	if len(alone.Proofs) < 2 {
		return
	}
	if l, _ := chainage.Clashes(alone); !slices.Contains(l, pair) {
		t.Fatalf("P4.16: the pair %v of %v does not contradict itself alone", pair, w)
	}
}
