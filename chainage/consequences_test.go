package chainage_test

import (
	"reflect"
	"slices"
	"testing"

	"boundstone/api"
	"boundstone/chainage"
)

// boundsOf returns the least and the greatest length of a chain in a year, as P4.13 says; the first one may be the greater one.
func boundsOf(w api.Works, c api.Chain, year int) api.Span {
	s := span(shortest, longest)
	for _, x := range thingsIn(w, c, spellAround(w, c, year)) {
		if x.year <= year {
			s.Lo = max(s.Lo, x.long.Lo)
			s.Hi = min(s.Hi, x.long.Hi+c.Wear*(year-x.year))
		}
		if x.year >= year {
			s.Lo = max(s.Lo, x.long.Lo-c.Wear*(x.year-year))
			s.Hi = min(s.Hi, x.long.Hi)
		}
	}
	return s
}

func TestBounds(t *testing.T) {
	r := newRand(4, 13)
	clashes := 0
	for range 1000 {
		w, _ := randomWorks(r, 1, 3960, 10)
		c := w.Chains[0]
		l, _ := chainage.Clashes(w)
		contradicts := false
		for year := c.Year; year <= lastYear; year++ {
			want := boundsOf(w, c, year)
			contradicts = contradicts || want.Lo > want.Hi
			if s, e := chainage.Long(w, c.ID, year); e == api.OK && s != want || want.Lo > want.Hi && e != api.ErrClash {
				t.Fatalf("P4.13: Long in %d of %v is %v, %d, not %v", year, w, s, e, want)
			}
		}
		if contradicts != (len(l) > 0) {
			t.Fatalf("P4.13: Clashes of %v is %v", w, l)
		}
		if contradicts {
			clashes++
		}
	}
	if clashes < 100 || clashes > 900 {
		t.Errorf("P4.13: these works test little: %d of 1000 contradict themselves", clashes)
	}
}

func TestTruth(t *testing.T) {
	r := newRand(4, 14)
	for range 1000 {
		w, lives := randomWorks(r, 2, 3960, 0)
		if one, two, is, e := chainage.Clash(w); is || e != api.OK {
			t.Fatalf("P4.14: %d and %d of true works %v contradict each other", one, two, w)
		}
		for _, l := range lives {
			years := span(l.chain.Year, lastYear)
			for i, long := range l.long {
				if s, e := chainage.Long(w, l.chain.ID, years.Lo+i); e != api.OK || long < s.Lo || s.Hi < long {
					t.Fatalf("P4.14: the true length %d in %d of %v is not in Long, %v, %d", long, years.Lo+i, w, s, e)
				}
			}
			if year, is := chainage.Fits(w, api.Wear{Chain: l.chain.ID, Year: years.Lo, Long: l.long}); !is {
				t.Fatalf("P4.14: the true lengths %v of %v are not possible in %d", l.long, w, year)
			}
			checkEnds(t, w, l.chain.ID, years)
		}
	}
}

// checkEnds checks that Shortest and Longest return possible lengths that attain both ends of Long in all years.
func checkEnds(t *testing.T, w api.Works, id int, years api.Span) {
	t.Helper()
	low, e := chainage.Shortest(w, id, years)
	high, f := chainage.Longest(w, id, years)
	if e != api.OK || f != api.OK || low.Chain != id || high.Chain != id || low.Year != years.Lo || high.Year != years.Lo {
		t.Fatalf("P4.7: Shortest and Longest of %d in %v of %v are %v, %d and %v, %d", id, years, w, low, e, high, f)
	}
	for i := range years.Hi - years.Lo + 1 {
		if s, _ := chainage.Long(w, id, years.Lo+i); s != span(low.Long[i], high.Long[i]) {
			t.Fatalf("P4.7, P4.14: Long in %d of %v is %v, not %d to %d", years.Lo+i, w, s, low.Long[i], high.Long[i])
		}
	}
	for _, x := range []api.Wear{low, high} {
		if year, is := chainage.Fits(w, x); year != -1 || !is {
			t.Fatalf("P4.14: the lengths %v of %v are not possible in %d", x, w, year)
		}
	}
}

func TestMoreProofs(t *testing.T) {
	r := newRand(4, 15)
	narrower := 0
	for range 1000 {
		w, lives := randomWorks(r, 1, 3960, 0)
		l := lives[0]
		year := l.chain.Year + r.IntN(len(l.long))
		more := plus(w, api.Proof{ID: greatID, Chain: 1, Year: year, Long: around(r, l.in(year), r.IntN(30))})
		for y := l.chain.Year; y <= lastYear; y++ {
			s, _ := chainage.Long(w, 1, y)
			u, e := chainage.Long(more, 1, y)
			if e != api.OK || u.Lo < s.Lo || u.Hi > s.Hi {
				t.Fatalf("P4.15: Long in %d of %v is %v, and with one more proof %v, %d", y, w, s, u, e)
			}
			if u != s {
				narrower++
			}
			checkRests(t, w, y)
		}
	}
	if narrower < 500 {
		t.Errorf("P4.15: these proofs test little: %d", narrower)
	}
}

// checkRests checks that Long of the chain 1 in a year does not need what Rests does not return.
func checkRests(t *testing.T, w api.Works, year int) {
	t.Helper()
	s, _ := chainage.Long(w, 1, year)
	low, high, _ := chainage.Rests(w, 1, year)
	var others []int
	for _, p := range w.Proofs {
		if p.ID != low && p.ID != high {
			others = append(others, p.ID)
		}
	}
	for _, ids := range append([][]int{others}, slices.Collect(slices.Chunk(others, 1))...) {
		rest, _ := chainage.Without(w, ids)
		if u, e := chainage.Long(rest, 1, year); u != s || e != api.OK {
			t.Fatalf("P4.15: Long in %d of %v rests on %d and %d, but without %v it is %v, %d", year, w, low, high, ids, u, e)
		}
	}
}

func TestOrder(t *testing.T) {
	r := newRand(4, 18)
	for range 500 {
		w, lives := randomWorks(r, 2, 3960, 5)
		other := shuffled(r, w)
		slices.SortFunc(other.Chains, func(a, b api.Chain) int { return slices.Index(w.Chains, a) - slices.Index(w.Chains, b) })
		c, year := randomChain(r, w)
		m, years := randomMeasure(r, w), span(year, min(lastYear, year+4))
		one, two := calls(w, c.ID, year, years, m), calls(other, c.ID, year, years, m)
		delete(one, "Without") // its lists are in the order of those of the works
		delete(two, "Without")
		if !reflect.DeepEqual(one, two) {
			t.Fatalf("P4.18: the results for %v and %v are %v and %v", w, other, one, two)
		}
		x := randomWear(r, lives[0])
		bad, is := chainage.Fits(w, x)
		if badOther, isOther := chainage.Fits(other, x); bad != badOther || is != isOther {
			t.Fatalf("P4.18: Fits of %v for %v and %v is %d and %d", x, w, other, bad, badOther)
		}
		checkOrderOfChains(t, w)
	}
}

// checkOrderOfChains checks that the order of the chains matters for the order of the pairs only.
func checkOrderOfChains(t *testing.T, w api.Works) {
	t.Helper()
	turned := copied(w)
	slices.Reverse(turned.Chains)
	one, _ := chainage.Clashes(w)
	two, _ := chainage.Clashes(turned)
	for _, l := range [][][2]int{one, two} {
		slices.SortFunc(l, func(a, b [2]int) int { return slices.Compare(a[:], b[:]) })
	}
	a, _ := chainage.Suspects(w)
	b, _ := chainage.Suspects(turned)
	if !slices.Equal(one, two) || !slices.Equal(a, b) {
		t.Fatalf("P4.18: the pairs of %v are %v, turned round %v, and the suspects %v, turned round %v", w, one, two, a, b)
	}
}
