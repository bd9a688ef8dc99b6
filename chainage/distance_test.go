package chainage_test

import (
	"math"
	"slices"
	"testing"

	"boundstone/api"
	"boundstone/chainage"
)

func TestDistance(t *testing.T) {
	exact := one(chain(1, 1800, 10000, 10000, 0), proof(2, 1, 1800, shortest, longest))
	wide := one(chain(1, 1800, shortest, longest, 0))
	for _, x := range []struct {
		w    api.Works
		m    api.Measure
		want api.Span
	}{
		{example(), measure(1, 1810, 3, 50, 1), span(349, 353)},
		{exact, measure(1, 1800, 3, 50, 0), span(350, 350)},
		{exact, measure(1, 1800, 3, 50, 7), span(343, 357)},
		{exact, measure(1, 1800, 0, 0, 0), span(0, 0)},
		{exact, measure(1, 1800, 0, 5, 5), span(0, 10)},
		{exact, measure(1, 1800, 0, 5, 6), span(0, 11)},
		{exact, measure(1, 1800, 0, 5, 4), span(1, 9)},
		{exact, measure(1, 1800, 1, 0, 100000), span(0, 100100)},
		{exact, measure(1, 1800, 100000, 99, 100000), span(9900099, 10100099)},
		{wide, measure(1, 1800, 1, 0, 0), span(90, 120)},
		{wide, measure(1, 1800, 0, 1, 0), span(0, 2)},
		{wide, measure(1, 1800, 0, 10, 0), span(9, 12)},
		{wide, measure(1, 1800, 0, 11, 0), span(9, 14)},
		{wide, measure(1, 1800, 0, 11, 1), span(9, 15)},
		{wide, measure(1, 1800, 0, 1, 10), span(0, 14)},
		{wide, measure(1, lastYear, 100000, 99, 100000), span(8910089, 12120119)},
		{mended(example(), repair(9, 1, 1815, 9500, 9600)), measure(1, 1815, 1, 0, 0), span(95, 96)},
		{clashing(), measure(2, 1825, 1, 0, 0), span(99, 100)},
		{clashing(), measure(1, 1819, 1, 0, 0), span(100, 101)},
	} {
		if s, e := chainage.Distance(x.w, x.m); s != x.want || e != api.OK {
			t.Errorf("P4.8: Distance of %v is %v, %d, not %v", x.m, s, e, x.want)
		}
	}
}

// wrongMeasures returns measures that are not valid for chains of 1800 and 1700.
func wrongMeasures() []api.Measure {
	var l []api.Measure
	for _, n := range []int{0, 3, -1, math.MaxInt64, math.MinInt64} {
		l = append(l, measure(n, 1805, 1, 1, 1))
	}
	for _, year := range wrongYears() {
		l = append(l, measure(1, year, 1, 1, 1))
	}
	for _, n := range []int{-1, 100001, math.MinInt64, math.MaxInt64} {
		l = append(l, measure(1, 1805, n, 1, 1), measure(1, 1805, 1, n, 1), measure(1, 1805, 1, 1, n), measure(1, 1825, n, 0, 0))
	}
	return append(l, measure(1, 1805, 0, 100, 0), measure(2, 1699, 1, 1, 1), api.Measure{})
}

func TestErrorsOfDistance(t *testing.T) {
	good, clash := measure(1, 1805, 1, 1, 1), measure(1, 1825, 1, 1, 1)
	check := func(m api.Measure, want api.Errno) {
		s, e := chainage.Distance(clashing(), m)
		if e != want || s != (api.Span{}) {
			t.Errorf("P4.8: Distance of %v is %v, %d, not %d", m, s, e, want)
		}
		ids, e := chainage.Needed(clashing(), m)
		if e != want || len(ids) != 0 {
			t.Errorf("P4.11: Needed of %v is %v, %d, not %d", m, ids, e, want)
		}
		for _, way := range [][]api.Measure{{m}, {good, m}, {good, m, clash}, {good, m, {}}} {
			s, e := chainage.Total(clashing(), way)
			if e != want || s != (api.Span{}) {
				t.Errorf("P4.9: Total of %v is %v, %d, not %d", way, s, e, want)
			}
			is, e := chainage.Closes(clashing(), []api.Measure{good}, way)
			if e != want || is {
				t.Errorf("P4.10: Closes with %v is %v, %d, not %d", way, is, e, want)
			}
			is, e = chainage.Closes(clashing(), way, slices.Repeat(way, 101))
			if e != want || is {
				t.Errorf("P4.10: Closes of %v is %v, %d, not %d", way, is, e, want)
			}
		}
	}
	for _, m := range wrongMeasures() {
		check(m, api.ErrArg)
	}
	check(clash, api.ErrClash)
	check(measure(1, 1820, 0, 0, 0), api.ErrClash)
	check(measure(1, 1829, 100000, 99, 100000), api.ErrClash)
}

func TestTotalAndCloses(t *testing.T) {
	a, b, c := measure(1, 1810, 3, 50, 1), measure(1, 1800, 1, 0, 0), measure(1, 1805, 0, 0, 0)
	for _, x := range []struct {
		l    []api.Measure
		want api.Span
	}{
		{nil, span(0, 0)}, {[]api.Measure{}, span(0, 0)}, {[]api.Measure{a}, span(349, 353)}, {[]api.Measure{a, b}, span(449, 454)},
		{[]api.Measure{b, b, c, a}, span(549, 555)}, {slices.Repeat([]api.Measure{b}, 100), span(10000, 10100)},
	} {
		if s, e := chainage.Total(example(), x.l); s != x.want || e != api.OK {
			t.Errorf("P4.9: Total of %v is %v, %d, not %v", x.l, s, e, x.want)
		}
	}
	one := func(links, slack int) []api.Measure { return []api.Measure{measure(1, 1800, 0, links, slack)} }
	exact := api.Works{Chains: []api.Chain{chain(1, 1800, 10000, 10000, 0)}}
	for _, x := range []struct {
		there, back []api.Measure
		want        bool
	}{
		{nil, nil, true}, {nil, one(1, 0), false}, {one(1, 1), nil, true}, {one(1, 0), nil, false},
		{one(50, 0), one(50, 0), true}, {one(50, 0), one(51, 0), false}, {one(51, 0), one(50, 0), false},
		{one(50, 2), one(53, 0), false}, {one(50, 2), one(53, 1), true}, {one(53, 0), one(50, 2), false}, {one(53, 1), one(50, 2), true},
		{one(50, 40), one(53, 1), true}, {one(53, 1), one(50, 40), true}, {slices.Repeat(one(10, 0), 5), one(50, 0), true}, {slices.Repeat(one(10, 0), 5), one(60, 9), false},
	} {
		if is, e := chainage.Closes(exact, x.there, x.back); is != x.want || e != api.OK {
			t.Errorf("P4.10: Closes of %v and %v is %v, %d", x.there, x.back, is, e)
		}
	}
}

func TestLimitOfTotal(t *testing.T) {
	good := []api.Measure{measure(1, 1805, 0, 1, 0)}
	for _, long := range [][]api.Measure{slices.Repeat(good, 101), make([]api.Measure, 101), slices.Repeat([]api.Measure{measure(1, 1825, 0, 1, 0)}, 101)} {
		if s, e := chainage.Total(clashing(), long); e != api.ErrLimit || s != (api.Span{}) {
			t.Errorf("P4.9: Total of 101 measures is %v, %d", s, e)
		}
		if is, e := chainage.Closes(clashing(), good, long); e != api.ErrLimit || is {
			t.Errorf("P4.10: Closes of 101 measures is %v, %d", is, e)
		}
		if is, e := chainage.Closes(clashing(), long, []api.Measure{{}}); e != api.ErrLimit || is {
			t.Errorf("P4.10: Closes of 101 measures is %v, %d", is, e)
		}
	}
	if is, e := chainage.Closes(clashing(), make([]api.Measure, 1), slices.Repeat(good, 101)); e != api.ErrArg || is {
		t.Errorf("P4.10: Closes is %v, %d", is, e)
	}
	greatest := slices.Repeat([]api.Measure{measure(1, lastYear, 100000, 99, 100000)}, 100)
	if s, e := chainage.Total(one(chain(1, 1800, longest, longest, 0)), greatest); s != span(1188011800, 1212011900) || e != api.OK {
		t.Errorf("P4.9: Total of the greatest measures is %v, %d", s, e)
	}
}

func TestNeededOfExamples(t *testing.T) {
	same := plus(example(), proof(2, 1, 1810, 10020, 10030))
	mendedOnce := mended(example(), repair(9, 1, 1820, 10000, 10000))
	// Without the repair 9 the proof 4 contradicts the proof 3.
	lower := plus(mendedOnce, proof(4, 1, 1821, 10000, 10002))
	for _, x := range []struct {
		w    api.Works
		m    api.Measure
		want []int
	}{
		{example(), measure(1, 1810, 3, 50, 1), []int{3}},
		{example(), measure(1, 1810, 0, 0, 0), nil},
		{example(), measure(1, 1800, 3, 50, 1), nil},
		{example(), measure(1, 1803, 10, 0, 0), nil},
		{example(), measure(1, 1809, 100, 0, 0), []int{3}},
		{same, measure(1, 1810, 3, 50, 1), nil},
		{mendedOnce, measure(1, 1810, 100, 0, 0), []int{3}},
		{mendedOnce, measure(1, 1821, 100, 0, 0), []int{9}},
		{lower, measure(1, 1821, 100, 0, 0), []int{4, 9}},
		{lower, measure(1, 1810, 100, 0, 0), []int{3, 9}},
		{lower, measure(1, 1810, 0, 0, 0), []int{9}},
		{clashing(), measure(2, 1825, 1, 0, 0), nil},
	} {
		if ids, e := chainage.Needed(x.w, x.m); !slices.Equal(ids, x.want) || e != api.OK {
			t.Errorf("P4.11: Needed of %v for %v is %v, %d, not %v", x.m, x.w, ids, e, x.want)
		}
	}
}

// neededOf finds what Needed returns by the possible lengths without each proof and repair.
func neededOf(w api.Works, m api.Measure) []int {
	var l []int
	whole, _ := distanceOf(w, m)
	for _, id := range idsOf(w) {
		if s, is := distanceOf(less(w, id), m); !is || s != whole {
			l = append(l, id)
		}
	}
	return l
}

func TestDistancesOfRandomWorks(t *testing.T) {
	r := newRand(4, 8)
	clashes, needed := 0, 0
	for range 400 {
		w, _ := randomWorks(r, 1+r.IntN(2), 3980, 20)
		m := randomMeasure(r, w)
		want, is := distanceOf(w, m)
		s, e := chainage.Distance(w, m)
		ids, f := chainage.Needed(w, m)
		if !is {
			clashes++
			if e != api.ErrClash || f != api.ErrClash {
				t.Fatalf("P4.8, P4.11: the errors for %v of %v, which has no lengths, are %d and %d", m, w, e, f)
			}
			continue
		}
		if s != want || e != api.OK {
			t.Fatalf("P4.8: Distance of %v for %v is %v, %d, not %v", m, w, s, e, want)
		}
		if want := neededOf(w, m); !slices.Equal(ids, want) || f != api.OK {
			t.Fatalf("P4.11: Needed of %v for %v is %v, %d, not %v", m, w, ids, f, want)
		}
		needed += len(ids)
	}
	if clashes < 10 || clashes > 200 || needed < 50 {
		t.Errorf("P4.8: these works test little: %d have no lengths, %d are needed", clashes, needed)
	}
}

// nearCounts returns counts of links that are away from that of a measure by at most its slack.
func nearCounts(m api.Measure) []int {
	n := 100*m.Chains + m.Links
	return []int{max(0, n-m.Slack), max(0, n-m.Slack/2), n, n + m.Slack/3, n + m.Slack}
}

func TestTrueDistances(t *testing.T) {
	r := newRand(4, 17)
	for range 3000 {
		w, lives := randomWorks(r, 1+r.IntN(2), 3970, 0)
		m := randomMeasure(r, w)
		s, e := chainage.Distance(w, m)
		if e != api.OK {
			t.Fatalf("P4.17: the error of Distance of %v for true works %v is %d", m, w, e)
		}
		for _, n := range nearCounts(m) {
			if long := n * lives[m.Chain-1].in(m.Year); 10000*s.Lo > long || long > 10000*s.Hi {
				t.Fatalf("P4.17: %d links of %v for %v are not in %v", n, m, w, s)
			}
		}
		wider := m
		wider.Slack += r.IntN(5)
		if u, _ := chainage.Distance(w, wider); u.Lo > s.Lo || u.Hi < s.Hi {
			t.Fatalf("P4.17: Distance with the slack %d is %v, with %d %v", m.Slack, s, wider.Slack, u)
		}
	}
}

func TestTotalOfListsBehindEachOther(t *testing.T) {
	r := newRand(4, 9)
	for range 500 {
		w, _ := randomWorks(r, 1+r.IntN(3), 3970, 0)
		var one, two []api.Measure
		for range r.IntN(5) {
			one = append(one, randomMeasure(r, w))
		}
		for range r.IntN(5) {
			two = append(two, randomMeasure(r, w))
		}
		a, _ := chainage.Total(w, one)
		b, _ := chainage.Total(w, two)
		s, e := chainage.Total(w, slices.Concat(one, two))
		if s != span(a.Lo+b.Lo, a.Hi+b.Hi) || e != api.OK {
			t.Fatalf("P4.17: Total of %v and %v for %v is %v, %d, not that of %v and %v", one, two, w, s, e, a, b)
		}
		var sum api.Span
		for _, m := range one {
			s, _ := chainage.Distance(w, m)
			sum = span(sum.Lo+s.Lo, sum.Hi+s.Hi)
		}
		if a != sum {
			t.Fatalf("P4.9: Total of %v for %v is %v, not %v", one, w, a, sum)
		}
		if is, e := chainage.Closes(w, one, two); is != (max(a.Lo, b.Lo) <= min(a.Hi, b.Hi)) || e != api.OK {
			t.Fatalf("P4.10: Closes of %v and %v for %v is %v, %d", one, two, w, is, e)
		}
	}
}
