package stone_test

import (
	"cmp"
	"math"
	"math/rand/v2"
	"reflect"
	"slices"
	"testing"

	"boundstone/api"
	"boundstone/stone"
)

func pair(one, two int) api.Pair { return api.Pair{One: one, Two: two} }

func TestMayOfExamples(t *testing.T) {
	l := example()
	a, b, c := l.Sights[0], l.Sights[1], l.Sights[2]
	for _, x := range []struct {
		a, b api.Sight
		want bool
	}{{a, b, true}, {b, a, true}, {a, c, false}, {c, a, false}, {b, c, true}, {a, a, false}} {
		if is, e := stone.May(l.Habit, x.a, x.b); is != x.want || e != api.OK {
			t.Errorf("P5.8: May of %v and %v is %v, %d", x.a, x.b, is, e)
		}
	}
	here := sight(1, 1700, box(0, 5, 0, 5), "A.", 0, 0)
	with := func(spoil func(s *api.Sight)) api.Sight {
		s := here
		s.Year = 1690
		spoil(&s)
		return s
	}
	for i, x := range []struct {
		b    api.Sight
		want bool
	}{
		{with(func(s *api.Sight) {}), true},
		{with(func(s *api.Sight) { s.Year = 1700 }), false},
		{with(func(s *api.Sight) { s.Year = 1701 }), true},
		{with(func(s *api.Sight) { s.Height = span(100, 100) }), true},
		{with(func(s *api.Sight) { s.Letters = ".B" }), true},
		{with(func(s *api.Sight) { s.Letters = "BB" }), false},
		{with(func(s *api.Sight) { s.Letters = "A" }), false},
		{with(func(s *api.Sight) { s.At = box(15, 20, 0, 5) }), true},
		{with(func(s *api.Sight) { s.At = box(16, 20, 0, 5) }), false},
		{with(func(s *api.Sight) { s.At = box(-20, -10, 0, 5) }), true},
		{with(func(s *api.Sight) { s.At = box(-20, -11, 0, 5) }), false},
		{with(func(s *api.Sight) { s.At = box(0, 0, 15, 15) }), true},
		{with(func(s *api.Sight) { s.At = box(0, 0, 16, 16) }), false},
		{with(func(s *api.Sight) { s.At = box(2, 2, -10, -10) }), true},
		{with(func(s *api.Sight) { s.At = box(2, 2, -11, -11) }), false},
		{with(func(s *api.Sight) { s.At = box(-10, -10, 15, 15) }), true},
		{with(func(s *api.Sight) { s.At = box(-11, -10, 15, 16) }), true},
		{with(func(s *api.Sight) { s.At = box(-limit, limit, -limit, limit) }), true},
	} {
		// Place and Sink do not matter.
		for _, h := range []api.Habit{habit(10, 0, 0), habit(10, 10000, 20)} {
			if is, e := stone.May(h, here, x.b); is != x.want || e != api.OK {
				t.Errorf("P5.8: May %d is %v, %d", i, is, e)
			}
			if is, e := stone.May(h, x.b, here); is != x.want || e != api.OK {
				t.Errorf("P5.8: May %d turned round is %v, %d", i, is, e)
			}
		}
	}
	corner := sight(1, 0, box(limit, limit, -limit, -limit), "A", 0, 0)
	other := sight(1, lastYear, box(limit-10000, limit-10000, 10000-limit, 10000-limit), "A", 0, 0)
	for step, want := range map[int]bool{0: false, 9999: false, 10000: true} {
		if is, e := stone.May(habit(step, 0, 0), corner, other); is != want || e != api.OK {
			t.Errorf("P5.8: May at the corner, with the Step %d, is %v, %d", step, is, e)
		}
	}
}

// ofLists returns what each function with two lists returns: its results, and last the error.
func ofLists(h api.Habit, l, m []api.Sight) map[string][]any {
	results := func(l ...any) []any { return l }
	return map[string][]any{
		"Pairs":      results(stone.Pairs(h, l, m)),
		"Match":      results(stone.Match(h, l, m)),
		"Forced":     results(stone.Forced(h, l, m)),
		"Cover":      results(stone.Cover(h, l, m)),
		"CheckMatch": results(stone.CheckMatch(h, l, m, nil, nil, nil)),
	}
}

func TestErrorsOfPairs(t *testing.T) {
	h, good, bad := habit(10, 10, 1), goodSights(), api.Sight{}
	for _, h := range wrongHabits() {
		errorsAre(t, "P5.8 to P5.10", ofLists(h, nil, nil), api.ErrArg)
		errorsAre(t, "P5.8 to P5.10", ofLists(h, make([]api.Sight, 41), good), api.ErrArg)
		if is, e := stone.May(h, good[0], good[1]); is || e != api.ErrArg {
			t.Errorf("P5.8: May with the habit %v is %v, %d", h, is, e)
		}
	}
	for _, l := range [][]api.Sight{make([]api.Sight, 41), slices.Repeat(good, 11), make([]api.Sight, 1<<16)} {
		errorsAre(t, "P5.8 to P5.10", ofLists(h, l, nil), api.ErrLimit)
		errorsAre(t, "P5.8 to P5.10", ofLists(h, nil, l), api.ErrLimit)
		errorsAre(t, "P5.8 to P5.10", ofLists(h, []api.Sight{bad}, l), api.ErrLimit)
		errorsAre(t, "P5.8 to P5.10", ofLists(h, l, []api.Sight{bad}), api.ErrLimit)
	}
	for _, s := range wrongSights() {
		for _, l := range [][]api.Sight{{s}, {good[0], s}, {s, good[0]}, append(slices.Repeat(good[:1], 39), s)} {
			errorsAre(t, "P5.8 to P5.10", ofLists(h, l, good), api.ErrArg, "CheckMatch")
			errorsAre(t, "P5.8 to P5.10", ofLists(h, good, l), api.ErrArg, "CheckMatch")
			if e := stone.CheckMatch(h, l, good, []api.Pair{{One: 9}}, nil, nil); e != api.ErrArg {
				t.Errorf("P5.10: the error of CheckMatch with the sight %v is %d", s, e)
			}
		}
		for _, x := range [][2]api.Sight{{s, good[0]}, {good[0], s}, {s, s}} {
			if is, e := stone.May(h, x[0], x[1]); is || e != api.ErrArg {
				t.Errorf("P5.8: May of %v is %v, %d", x, is, e)
			}
		}
	}
	errorsAre(t, "P5.8 to P5.10", ofLists(h, nil, nil), api.OK)
	errorsAre(t, "P5.8 to P5.10", ofLists(h, slices.Repeat(good, 10), nil), api.OK)
	errorsAre(t, "P5.8 to P5.10", ofLists(h, nil, slices.Repeat(good, 10)), api.OK)
	// Sights of one list may have the same ID and any years.
	errorsAre(t, "P5.8 to P5.10", ofLists(h, []api.Sight{good[1], good[0], good[0]}, nil), api.OK)
}

// randomSights returns sights of some years that are near each other.
func randomSights(r *rand.Rand, n int, years ...int) []api.Sight {
	var l []api.Sight
	for range n {
		x, y := r.IntN(2*n+1), r.IntN(3)
		l = append(l, sight(1+r.IntN(9), years[r.IntN(len(years))], box(x, x+r.IntN(3), y, y+r.IntN(2)), blotted(r, randomLetters(r, 1+r.IntN(8)/7)), 0, r.IntN(9)))
	}
	return l
}

// pairsOf returns the pairs of sights that can be of one stone, by trying all points of both.
func pairsOf(h api.Habit, l, m []api.Sight) []api.Pair {
	var pairs []api.Pair
	for one, a := range l {
		for two, b := range m {
			_, agree := blendOf(a.Letters, b.Letters)
			if agree && areNear(a.At, b.At, h.Step) && a.Year != b.Year {
				pairs = append(pairs, pair(one, two))
			}
		}
	}
	return pairs
}

// areNear reports whether some points of two boxes are near each other.
func areNear(a, b api.Box, by int) bool {
	for _, p := range pointsOf(a) {
		for _, q := range pointsOf(b) {
			if near(p, q, by) {
				return true
			}
		}
	}
	return false
}

// matchings returns all matchings of some pairs.
func matchings(pairs []api.Pair) [][]api.Pair {
	if len(pairs) == 0 {
		return [][]api.Pair{nil}
	}
	first, l := pairs[0], matchings(pairs[1:])
	for _, some := range l {
		if !slices.ContainsFunc(some, func(p api.Pair) bool { return p.One == first.One || p.Two == first.Two }) {
			l = append(l, append([]api.Pair{first}, some...))
		}
	}
	return l
}

func isCover(pairs []api.Pair, one, two []int) bool {
	return !slices.ContainsFunc(pairs, func(p api.Pair) bool { return !slices.Contains(one, p.One) && !slices.Contains(two, p.Two) })
}

// bits returns the indices from 0 to n - 1 that a number has as bits.
func bits(set, n int) []int {
	var l []int
	for i := range n {
		if set>>i&1 == 1 {
			l = append(l, i)
		}
	}
	return l
}

// fewestOf returns how many indices a cover needs, by trying all.
func fewestOf(pairs []api.Pair, ones, twos int) int {
	few := ones + twos
	for set := range 1 << (ones + twos) {
		one, two := bits(set, ones), bits(set>>ones, twos)
		if len(one)+len(two) < few && isCover(pairs, one, two) {
			few = len(one) + len(two)
		}
	}
	return few
}

func comparePairs(a, b api.Pair) int {
	return cmp.Or(cmp.Compare(a.One, b.One), cmp.Compare(a.Two, b.Two))
}

func increases(l []int, n int) bool {
	for i, x := range l {
		if x < 0 || x >= n || i > 0 && l[i-1] >= x {
			return false
		}
	}
	return true
}

// checkMatch checks what Match and Cover return, of lists with some pairs, and returns the pairs of Match.
func checkMatch(t *testing.T, h api.Habit, l, m []api.Sight, pairs []api.Pair) []api.Pair {
	t.Helper()
	match, e := stone.Match(h, l, m)
	one, two, f := stone.Cover(h, l, m)
	if e != api.OK || f != api.OK {
		t.Fatalf("P5.9: the errors of Match and Cover are %d and %d", e, f)
	}
	ones, twos := map[int]bool{}, map[int]bool{}
	for _, p := range match {
		if !slices.Contains(pairs, p) {
			t.Fatalf("P5.9: the pair %v of Match is not one of %v", p, pairs)
		}
		ones[p.One], twos[p.Two] = true, true
	}
	if len(ones) != len(match) || len(twos) != len(match) || !slices.IsSortedFunc(match, comparePairs) {
		t.Fatalf("P5.9: Match is %v", match)
	}
	if !increases(one, len(l)) || !increases(two, len(m)) || len(one)+len(two) != len(match) || !isCover(pairs, one, two) {
		t.Fatalf("P5.9: Cover of %v is %v and %v, and Match %v", pairs, one, two, match)
	}
	if e := stone.CheckMatch(h, l, m, match, one, two); e != api.OK {
		t.Fatalf("P5.15: the error of CheckMatch of %v, %v and %v is %d", match, one, two, e)
	}
	turned := slices.Clone(match)
	slices.Reverse(turned)
	if e := stone.CheckMatch(h, l, m, turned, one, two); e != api.OK {
		t.Fatalf("P5.10: the error of CheckMatch of %v, in another order, is %d", match, e)
	}
	return match
}

func TestMatchesOfRandomLists(t *testing.T) {
	r := newRand(5, 9)
	forced, sizes := map[int]int{}, map[int]int{}
	for range 2000 {
		h := habit(r.IntN(4), r.IntN(9), r.IntN(3))
		l, m := randomSights(r, r.IntN(6), 1700), randomSights(r, r.IntN(6), 1710, 1710, 1710, 1700)
		pairs := pairsOf(h, l, m)
		if got, e := stone.Pairs(h, l, m); !slices.Equal(got, pairs) || e != api.OK {
			t.Fatalf("P5.8: Pairs of %v, %v and %v is %v, %d, not %v", h, l, m, got, e, pairs)
		}
		all := matchings(pairs)
		longest := slices.MaxFunc(all, func(a, b []api.Pair) int { return len(a) - len(b) })
		all = slices.DeleteFunc(all, func(some []api.Pair) bool { return len(some) < len(longest) })
		match := checkMatch(t, h, l, m, pairs)
		if len(match) != len(longest) {
			t.Fatalf("P5.9: Match of the pairs %v is %v, but there is %v", pairs, match, longest)
		}
		if few := fewestOf(pairs, len(l), len(m)); few != len(match) {
			t.Fatalf("P5.9: Cover of the pairs %v has %d indices, not %d", pairs, len(match), few)
		}
		want := slices.DeleteFunc(pairs, func(p api.Pair) bool {
			return slices.ContainsFunc(all, func(some []api.Pair) bool { return !slices.Contains(some, p) })
		})
		if got, e := stone.Forced(h, l, m); !slices.Equal(got, want) || e != api.OK {
			t.Fatalf("P5.9: Forced of %v and %v is %v, %d, not %v", l, m, got, e, want)
		}
		forced[len(want)]++
		sizes[len(longest)]++
	}
	if forced[0] < 100 || forced[1] < 100 || forced[2] < 50 || sizes[3] < 100 {
		t.Errorf("P5.9: these lists test little: %v, %v", forced, sizes)
	}
}

func TestForcedOfExamples(t *testing.T) {
	row := func(year int, letters ...string) []api.Sight {
		var l []api.Sight
		for i, s := range letters {
			l = append(l, sight(i+1, year, box(0, 0, 0, 0), s, 0, 0))
		}
		return l
	}
	for _, x := range []struct {
		l, m        []string
		match, want []api.Pair
	}{
		{nil, []string{"A"}, nil, nil},
		{[]string{"A"}, []string{"A"}, []api.Pair{pair(0, 0)}, []api.Pair{pair(0, 0)}},
		{[]string{"A"}, []string{"A", "A"}, nil, nil},
		{[]string{"A", "B"}, []string{"B", "A"}, []api.Pair{pair(0, 1), pair(1, 0)}, []api.Pair{pair(0, 1), pair(1, 0)}},
		{[]string{".", "A"}, []string{"A", "B"}, []api.Pair{pair(0, 1), pair(1, 0)}, []api.Pair{pair(0, 1), pair(1, 0)}},
		{[]string{".", "."}, []string{"A", "B"}, nil, nil},
		{[]string{"A.", "AB", "CC"}, []string{"AB", "AD", ".C"}, []api.Pair{pair(0, 1), pair(1, 0), pair(2, 2)}, []api.Pair{pair(0, 1), pair(1, 0), pair(2, 2)}},
		{[]string{"A", "A", "B"}, []string{"A", "B"}, nil, []api.Pair{pair(2, 1)}},
	} {
		l, m := row(1700, x.l...), row(1710, x.m...)
		match := checkMatch(t, api.Habit{}, l, m, pairsOf(api.Habit{}, l, m))
		if x.match != nil && !slices.Equal(match, x.match) {
			t.Errorf("P5.9: Match of %v and %v is %v", x.l, x.m, match)
		}
		if got, e := stone.Forced(api.Habit{}, l, m); !slices.Equal(got, x.want) || e != api.OK {
			t.Errorf("P5.9: Forced of %v and %v is %v, %d", x.l, x.m, got, e)
		}
	}
}

func TestLongLists(t *testing.T) {
	r := newRand(5, 15)
	for range 40 {
		h := habit(r.IntN(3), 0, 0)
		l, m := randomSights(r, 40, 1700), randomSights(r, 40, 1710)
		pairs, e := stone.Pairs(h, l, m)
		if e != api.OK {
			t.Fatalf("P5.8: the error of Pairs is %d", e)
		}
		match := checkMatch(t, h, l, m, pairs)
		forced, e := stone.Forced(h, l, m)
		if e != api.OK {
			t.Fatalf("P5.9: the error of Forced is %d", e)
		}
		for _, p := range forced {
			if !slices.Contains(match, p) {
				t.Fatalf("P5.9: the pair %v of Forced is not in %v", p, match)
			}
		}
	}
	// A way that all pairs take part in: each sight but the last one goes with two.
	var l, m []api.Sight
	for i := range 40 {
		l = append(l, sight(i+1, 1700, box(2*i, 2*i, 0, 0), "A", 0, 0))
		m = append(m, sight(i+1, 1710, box(2*i+1, 2*i+1, 0, 0), "A", 0, 0))
	}
	h := habit(1, 0, 0)
	match := checkMatch(t, h, l, m, pairsOf(h, l, m))
	forced, e := stone.Forced(h, l, m)
	if len(match) != 40 || !slices.Equal(forced, match) || e != api.OK {
		t.Errorf("P5.9: Match is %v, and Forced %v, %d", match, forced, e)
	}
}

// mirrored returns pairs of two lists that are exchanged.
func mirrored(l []api.Pair) []api.Pair {
	var other []api.Pair
	for _, p := range l {
		other = append(other, pair(p.Two, p.One))
	}
	return other
}

func TestCheckMatch(t *testing.T) {
	one := func(letters ...string) []api.Sight {
		var l []api.Sight
		for i, s := range letters {
			l = append(l, sight(i+1, 1700, box(0, 0, 0, 0), s, 0, 0))
		}
		return l
	}
	l, m := one("A", "A", "B", "C"), one(".", "A", "B")
	for i := range m {
		m[i].Year = 1710
	}
	h := api.Habit{}
	type proof struct {
		pairs    []api.Pair
		one, two []int
	}
	good := []api.Pair{pair(0, 1), pair(1, 0), pair(2, 2)}
	for _, x := range []proof{
		{good, nil, []int{0, 1, 2}}, {[]api.Pair{pair(2, 2), pair(1, 0), pair(0, 1)}, []int{}, []int{0, 1, 2}},
		{[]api.Pair{pair(3, 0), pair(2, 2), pair(1, 1)}, nil, []int{0, 1, 2}}, {good, []int{2}, []int{0, 1}},
	} {
		if e := stone.CheckMatch(h, l, m, x.pairs, x.one, x.two); e != api.OK {
			t.Errorf("P5.10: the error of CheckMatch of %v is %d", x, e)
		}
		if e := stone.CheckMatch(h, m, l, mirrored(x.pairs), x.two, x.one); e != api.OK {
			t.Errorf("P5.10: the error of CheckMatch of %v, with the lists exchanged, is %d", x, e)
		}
	}
	for _, x := range []proof{
		{}, {good, nil, nil}, {nil, nil, []int{0, 1, 2}}, {good[:2], nil, []int{0, 1, 2}}, {good[:2], nil, []int{0, 1}}, {good[:1], nil, []int{0, 1}},
		{good, nil, []int{1, 0, 2}}, {good, nil, []int{0, 2, 1}}, {good, nil, []int{0, 1}}, {good, nil, []int{0, 1, 3}}, {good, []int{0, 1, 2}, nil},
		{good, []int{3}, []int{0, 1}}, {good, []int{3}, []int{0, 1, 2}}, {good, []int{0}, []int{0, 2}}, {good, []int{2, 0}, []int{0}}, {good, []int{1, 0}, []int{0}},
		{good, nil, []int{0, 0, 1, 2}}, {good, nil, []int{-1, 1, 2}}, {good, []int{math.MinInt64}, []int{0, 1}}, {good, nil, []int{0, 1, math.MaxInt64}},
		{[]api.Pair{pair(0, 1), pair(1, 1), pair(2, 2)}, nil, []int{0, 1, 2}}, {[]api.Pair{pair(0, 1), pair(0, 0), pair(2, 2)}, nil, []int{0, 1, 2}},
		{[]api.Pair{pair(0, 1), pair(0, 1), pair(2, 2)}, nil, []int{0, 1, 2}}, {[]api.Pair{pair(0, 1), pair(1, 0), pair(3, 2)}, nil, []int{0, 1, 2}},
		{[]api.Pair{pair(0, 1), pair(1, 0), pair(4, 2)}, nil, []int{0, 1, 2}}, {[]api.Pair{pair(0, 1), pair(1, 0), pair(2, -1)}, nil, []int{0, 1, 2}},
		{[]api.Pair{pair(0, 1), pair(1, 0), pair(math.MaxInt64, math.MinInt64)}, nil, []int{0, 1, 2}}, {slices.Repeat(good, 1<<12), nil, make([]int, 3<<12)},
	} {
		if e := stone.CheckMatch(h, l, m, x.pairs, x.one, x.two); e != api.ErrProof {
			t.Errorf("P5.10: the error of CheckMatch of %d pairs, %v, %v is %d", len(x.pairs), x.pairs[:min(3, len(x.pairs))], x.two[:min(4, len(x.two))], e)
		}
		if e := stone.CheckMatch(h, m, l, mirrored(x.pairs), x.two, x.one); e != api.ErrProof {
			t.Errorf("P5.10: the error of CheckMatch of %d pairs, %v, %v, with the lists exchanged, is %d", len(x.pairs), x.pairs[:min(3, len(x.pairs))], x.two[:min(4, len(x.two))], e)
		}
	}
	if e := stone.CheckMatch(h, l, nil, nil, nil, nil); e != api.OK {
		t.Errorf("P5.10: the error of CheckMatch of no sights is %d", e)
	}
	if e := stone.CheckMatch(h, l, nil, nil, []int{0}, nil); e != api.ErrProof {
		t.Errorf("P5.10: the error of CheckMatch of no sights, and one index, is %d", e)
	}
}

func TestRandomProofs(t *testing.T) {
	r := newRand(5, 10)
	accepted := 0
	for range 400 {
		h := habit(r.IntN(2), 0, 0)
		l, m := randomSights(r, 1+r.IntN(3), 1700), randomSights(r, 1+r.IntN(3), 1710)
		pairs := pairsOf(h, l, m)
		for range 50 {
			var some []api.Pair
			for _, p := range pairs {
				if r.IntN(2) == 0 {
					some = append(some, p)
				}
			}
			one, two := bits(r.IntN(8), len(l)), bits(r.IntN(8), len(m))
			if checkProof(t, h, l, m, pairs, some, one, two) {
				accepted++
			}
		}
	}
	if accepted < 500 {
		t.Errorf("P5.15: these proofs test little: %d", accepted)
	}
}

// checkProof checks whether CheckMatch accepts some of the pairs of two lists, with indices, and returns that.
func checkProof(t *testing.T, h api.Habit, l, m []api.Sight, pairs, some []api.Pair, one, two []int) bool {
	t.Helper()
	all := matchings(pairs)
	is := slices.ContainsFunc(all, func(x []api.Pair) bool { return slices.Equal(x, some) })
	is = is && isCover(pairs, one, two) && len(some) == len(one)+len(two)
	e := stone.CheckMatch(h, l, m, some, one, two)
	if is && e != api.OK || !is && e != api.ErrProof {
		t.Fatalf("P5.10: the error of CheckMatch of %v, %v, %v, for the pairs %v, is %d", some, one, two, pairs, e)
	}
	if is && slices.ContainsFunc(all, func(x []api.Pair) bool { return len(x) > len(some) }) {
		t.Fatalf("P5.15: CheckMatch accepts %v, but a matching of %v has more", some, pairs)
	}
	return is
}

func TestTruePairs(t *testing.T) {
	r := newRand(5, 16)
	for range 300 {
		h := habit([]int{0, 5, 10000}[r.IntN(3)], 0, 0)
		whole := span(-limit, limit)
		seen := func(p api.Point, letters string, year int) api.Sight {
			slack := []int{0, 3, 5000}[r.IntN(3)]
			return api.Sight{ID: 1, Year: year, At: api.Box{X: about(r, p.X, slack, whole), Y: about(r, p.Y, slack, whole)}, Letters: blotted(r, letters)}
		}
		n := r.IntN(41)
		order := r.Perm(n)
		l, m := make([]api.Sight, n), make([]api.Sight, n)
		var want []api.Pair
		for one, two := range order {
			p, letters := at(r.IntN(2*limit+1)-limit, r.IntN(2*limit+1)-limit), randomLetters(r, 1+r.IntN(8))
			l[one] = seen(p, letters, 1700)
			m[two] = seen(at(shifted(r, p.X, h.Step, whole), shifted(r, p.Y, h.Step, whole)), letters, 1720)
			want = append(want, pair(one, two))
		}
		pairs, e := stone.Pairs(h, l, m)
		if e != api.OK || slices.ContainsFunc(want, func(p api.Pair) bool { return !slices.Contains(pairs, p) }) {
			t.Fatalf("P5.16: Pairs is %v, %d, without one of %v", pairs, e, want)
		}
		if e := stone.CheckMatch(h, l, m, want, numbers(n), nil); e != api.OK {
			t.Fatalf("P5.16: the true pairs %v are no matching: %d", want, e)
		}
		if match := checkMatch(t, h, l, m, pairs); len(match) != n {
			t.Fatalf("P5.16: Match is %v, but the true pairs are %v", match, want)
		}
	}
}

// numbers returns the numbers from 0 to n - 1.
func numbers(n int) []int {
	l := make([]int, n)
	for i := range l {
		l[i] = i
	}
	return l
}

func TestMemoryOfPairs(t *testing.T) {
	r := newRand(5, 66)
	h := habit(3, 0, 0)
	l, m := randomSights(r, 20, 1700), randomSights(r, 20, 1710)
	lBefore, mBefore := slices.Clone(l), slices.Clone(m)
	first, second := ofLists(h, l, m), ofLists(h, l, m)
	if !reflect.DeepEqual(first, second) {
		t.Error("R7: the results for the same lists differ")
	}
	spoilResults(first)
	match, _ := stone.Match(h, l, m)
	one, two, _ := stone.Cover(h, l, m)
	slices.Reverse(match)
	turned := slices.Clone(match)
	if e := stone.CheckMatch(h, l, m, match, one, two); e != api.OK || !slices.Equal(match, turned) {
		t.Errorf("R6: CheckMatch changes the pairs, %v, %d", match, e)
	}
	if !slices.Equal(l, lBefore) || !slices.Equal(m, mBefore) || !reflect.DeepEqual(second, ofLists(h, l, m)) {
		t.Error("R6: the lists are changed, or results share memory")
	}
}
