package chainage_test

import (
	"math"
	"math/rand/v2"
	"slices"
	"testing"

	"boundstone/api"
	"boundstone/chainage"
)

func TestSpell(t *testing.T) {
	w := mended(example(), repair(9, 1, 1815, 10000, 10000))
	many := mended(mended(w, repair(11, 1, 1801, 10000, 10000)), repair(10, 1, lastYear, 10000, 10000))
	many.Chains = append(many.Chains, chain(2, 0, 9000, 9000, 0), chain(3, lastYear, 9000, 9000, 0))
	for _, x := range []struct {
		w           api.Works
		chain, year int
		want        api.Span
	}{
		{example(), 1, 1800, span(1800, lastYear)}, {example(), 1, lastYear, span(1800, lastYear)},
		{w, 1, 1800, span(1800, 1814)}, {w, 1, 1810, span(1800, 1814)}, {w, 1, 1814, span(1800, 1814)},
		{w, 1, 1815, span(1815, lastYear)}, {w, 1, 1816, span(1815, lastYear)},
		{many, 1, 1800, span(1800, 1800)}, {many, 1, 1801, span(1801, 1814)}, {many, 1, 1814, span(1801, 1814)},
		{many, 1, 1815, span(1815, lastYear-1)}, {many, 1, lastYear - 1, span(1815, lastYear-1)}, {many, 1, lastYear, span(lastYear, lastYear)},
		{many, 2, 0, span(0, lastYear)}, {many, 2, 1815, span(0, lastYear)}, {many, 3, lastYear, span(lastYear, lastYear)},
		{clashing(), 1, 1825, span(1820, 1829)},
	} {
		if s, e := chainage.Spell(x.w, x.chain, x.year); s != x.want || e != api.OK {
			t.Errorf("P4.2: Spell of the chain %d in %d is %v, %d, not %v", x.chain, x.year, s, e, x.want)
		}
	}
}

// asks returns what functions with a chain and a year return as errors.
func asks(w api.Works, id, year int) map[string]api.Errno {
	_, spell := chainage.Spell(w, id, year)
	_, long := chainage.Long(w, id, year)
	_, _, rests := chainage.Rests(w, id, year)
	_, prove := chainage.Prove(w, id, year, span(5, 4))
	return map[string]api.Errno{"P4.2: Spell": spell, "P4.4: Long": long, "P4.4: Rests": rests, "P4.12: Prove": prove}
}

func TestErrorsOfYears(t *testing.T) {
	for _, w := range []api.Works{example(), clashing()} {
		for _, id := range append(wrongIDs(), 3, 5) {
			for _, year := range []int{1805, 1825, -1, 5000} {
				for name, e := range asks(w, id, year) {
					errorIs(t, name, e, api.ErrNone)
				}
			}
		}
		for _, year := range wrongYears() {
			for name, e := range asks(w, 1, year) {
				errorIs(t, name, e, api.ErrArg)
			}
		}
	}
	for year, clash := range map[int]bool{1800: false, 1819: false, 1820: true, 1825: true, 1829: true, 1830: false, lastYear: false} {
		want := api.OK
		if clash {
			want = api.ErrClash
		}
		_, e := chainage.Long(clashing(), 1, year)
		errorIs(t, "P4.4: Long", e, want)
		_, _, e = chainage.Rests(clashing(), 1, year)
		errorIs(t, "P4.4: Rests", e, want)
		_, e = chainage.Spell(clashing(), 1, year)
		errorIs(t, "P4.2: Spell", e, api.OK)
	}
	if _, e := chainage.Long(clashing(), 2, 1825); e != api.OK {
		t.Errorf("P4.4: the error of Long of a chain beside one that contradicts itself is %d", e)
	}
}

func TestLongAndRests(t *testing.T) {
	four := plus(example(), proof(4, 1, 1804, 10022, 10025))
	free := one(chain(1, 1800, shortest, longest, 5))
	mendedOnce := mended(example(), repair(9, 1, 1815, 9500, 9600))
	same := plus(plus(example(), proof(8, 1, 1810, 10020, 10030)), proof(2, 1, 1810, 10020, 10030))
	stiff := one(chain(1, 1800, 10000, 10100, 0), proof(5, 1, 1900, 10050, 10060), proof(2, 1, 1850, 10040, 10070))
	for i, x := range []struct {
		w         api.Works
		year      int
		want      api.Span
		low, high int
	}{
		{example(), 1800, span(10000, 10010), 0, 0},
		{example(), 1801, span(10000, 10015), 0, 0},
		{example(), 1804, span(10000, 10030), 0, 0},
		{example(), 1805, span(10000, 10030), 0, 3},
		{example(), 1807, span(10005, 10030), 3, 3},
		{example(), 1810, span(10020, 10030), 3, 3},
		{example(), 1820, span(10020, 10080), 3, 3},
		{example(), lastYear, span(10020, longest), 3, 0},
		{four, 1800, span(10002, 10010), 4, 0},
		{four, 1804, span(10022, 10025), 4, 4},
		{four, 1810, span(10022, 10030), 4, 3},
		{free, 1800, span(shortest, longest), 0, 0},
		{free, lastYear, span(shortest, longest), 0, 0},
		{plus(free, proof(7, 1, 1900, 9100, 9200)), 1900, span(9100, 9200), 7, 7},
		{plus(free, proof(7, 1, 1900, 9100, 9200)), 1880, span(shortest, 9200), 0, 7},
		{plus(free, proof(7, 1, 1900, 9100, 9200)), 1879, span(shortest, 9200), 0, 7},
		{plus(free, proof(7, 1, 1900, 9100, 9200)), 1881, span(9005, 9200), 7, 7},
		{plus(free, proof(7, 1, 1900, shortest, longest)), 1900, span(shortest, longest), 0, 0},
		{mendedOnce, 1814, span(10020, 10050), 3, 3},
		{mendedOnce, 1815, span(9500, 9600), 9, 9},
		{mendedOnce, 1817, span(9500, 9610), 9, 9},
		{plus(mendedOnce, proof(4, 1, 1815, 9500, 9590)), 1817, span(9500, 9600), 4, 4},
		{plus(mendedOnce, proof(10, 1, 1815, 9500, 9600)), 1817, span(9500, 9610), 9, 9},
		{same, 1812, span(10020, 10040), 2, 2},
		{plus(example(), proof(2, 1, 1800, 10000, 10010)), 1800, span(10000, 10010), 0, 0},
		{stiff, 1800, span(10050, 10060), 5, 5},
		{stiff, lastYear, span(10050, 10060), 5, 5},
	} {
		s, e := chainage.Long(x.w, 1, x.year)
		if s != x.want || e != api.OK {
			t.Errorf("P4.4: Long %d, in %d, is %v, %d, not %v", i, x.year, s, e, x.want)
		}
		low, high, e := chainage.Rests(x.w, 1, x.year)
		if low != x.low || high != x.high || e != api.OK {
			t.Errorf("P4.4: Rests %d, in %d, is %d, %d, %d, not %d, %d", i, x.year, low, high, e, x.low, x.high)
		}
	}
}

// restsOf finds what Rests returns by the possible lengths with each thing alone.
func restsOf(w api.Works, c api.Chain, year int) (int, int) {
	long, _ := longOf(w, c, year, all)
	none, _ := longOf(w, c, year, func(told) bool { return false })
	low, high := math.MaxInt, math.MaxInt
	for _, x := range thingsIn(w, c, spellAround(w, c, year)) {
		alone, _ := longOf(w, c, year, func(y told) bool { return x == y })
		if alone.Lo == long.Lo {
			low = min(low, x.number)
		}
		if alone.Hi == long.Hi {
			high = min(high, x.number)
		}
	}
	if none.Lo == long.Lo {
		low = 0
	}
	if none.Hi == long.Hi {
		high = 0
	}
	return low, high
}

func TestRandomLengths(t *testing.T) {
	r := newRand(4, 4)
	clashes := 0
	for range 800 {
		w, _ := randomWorks(r, 1+r.IntN(2), 3970, 20)
		c, year := randomChain(r, w)
		if s, e := chainage.Spell(w, c.ID, year); s != spellAround(w, c, year) || e != api.OK {
			t.Fatalf("P4.2: Spell of %v in %d of %v is %v, %d", c, year, w, s, e)
		}
		want, is := longOf(w, c, year, all)
		s, e := chainage.Long(w, c.ID, year)
		low, high, f := chainage.Rests(w, c.ID, year)
		if !is {
			clashes++
			if s != (api.Span{}) || low != 0 || high != 0 || e != api.ErrClash || f != api.ErrClash {
				t.Fatalf("P4.4: Long, Rests of %v in %d of %v, which has no lengths, are %v, %d; %d, %d, %d", c, year, w, s, e, low, high, f)
			}
			continue
		}
		if s != want || e != api.OK {
			t.Fatalf("P4.4, P4.13: Long of %v in %d of %v is %v, %d, not %v", c, year, w, s, e, want)
		}
		if wantLow, wantHigh := restsOf(w, c, year); low != wantLow || high != wantHigh || f != api.OK {
			t.Fatalf("P4.4: Rests of %v in %d of %v is %d, %d, %d, not %d, %d", c, year, w, low, high, f, wantLow, wantHigh)
		}
	}
	if clashes < 20 || clashes > 400 {
		t.Errorf("P4.4: these works test little: %d of 800 have no lengths", clashes)
	}
}

func TestLengthsOfLongSpells(t *testing.T) {
	r := newRand(4, 13)
	for range 15 {
		w, _ := randomWorks(r, 1, 3970, 0)
		w.Chains[0].Year = r.IntN(1000)
		c := w.Chains[0]
		year := c.Year + r.IntN(lastYear-c.Year+1)
		want, is := longOf(w, c, year, all)
		if s, e := chainage.Long(w, 1, year); s != want || is != (e == api.OK) {
			t.Fatalf("P4.4, P4.13: Long in %d of %v is %v, %d, not %v", year, w, s, e, want)
		}
	}
}

func TestShortestAndLongest(t *testing.T) {
	w := mended(example(), repair(9, 1, 1815, 9500, 9600))
	for _, x := range []struct {
		years             api.Span
		shortest, longest []int
	}{
		{span(1800, 1800), []int{10000}, []int{10010}},
		{span(1803, 1808), []int{10000, 10000, 10000, 10000, 10005, 10010}, []int{10025, 10030, 10030, 10030, 10030, 10030}},
		{span(1813, 1817), []int{10020, 10020, 9500, 9500, 9500}, []int{10045, 10050, 9600, 9605, 9610}},
		{span(lastYear, lastYear), []int{9500}, []int{longest}},
	} {
		s, e := chainage.Shortest(w, 1, x.years)
		if e != api.OK || s.Chain != 1 || s.Year != x.years.Lo || !slices.Equal(s.Long, x.shortest) {
			t.Errorf("P4.7: Shortest in %v is %v, %d, not %v", x.years, s, e, x.shortest)
		}
		l, e := chainage.Longest(w, 1, x.years)
		if e != api.OK || l.Chain != 1 || l.Year != x.years.Lo || !slices.Equal(l.Long, x.longest) {
			t.Errorf("P4.7: Longest in %v is %v, %d, not %v", x.years, l, e, x.longest)
		}
	}
}

func TestErrorsOfShortestAndLongest(t *testing.T) {
	for _, x := range []struct {
		chain int
		years api.Span
		want  api.Errno
	}{
		{3, span(1805, 1806), api.ErrNone}, {0, span(6, 5), api.ErrNone}, {-1, span(0, math.MaxInt64), api.ErrNone}, {3, span(1805, 2900), api.ErrNone},
		{1, span(1799, 1805), api.ErrArg}, {1, span(1805, lastYear+1), api.ErrArg}, {1, span(1806, 1805), api.ErrArg}, {1, span(0, 3), api.ErrArg},
		{1, span(1799, 2900), api.ErrArg}, {1, span(2900, 1805), api.ErrArg}, {1, span(math.MinInt64, math.MaxInt64), api.ErrArg},
		{1, span(math.MaxInt64, math.MinInt64), api.ErrArg}, {1, span(1825, 1824), api.ErrArg}, {1, span(math.MaxInt64, math.MaxInt64), api.ErrArg},
		{1, span(1800, 2200), api.ErrLimit}, {1, span(1840, 2240), api.ErrLimit}, {1, span(1800, lastYear), api.ErrLimit}, {2, span(1700, 2100), api.ErrLimit},
		{1, span(1800, 2199), api.ErrClash}, {1, span(1825, 1825), api.ErrClash}, {1, span(1819, 1820), api.ErrClash}, {1, span(1829, 1830), api.ErrClash}, {1, span(1815, 1832), api.ErrClash},
		{1, span(1800, 1819), api.OK}, {1, span(1819, 1819), api.OK}, {1, span(1830, 1830), api.OK}, {1, span(1830, 2229), api.OK}, {1, span(3601, lastYear), api.OK}, {2, span(1825, 1825), api.OK},
	} {
		for name, f := range map[string]func(api.Works, int, api.Span) (api.Wear, api.Errno){"Shortest": chainage.Shortest, "Longest": chainage.Longest} {
			l, e := f(clashing(), x.chain, x.years)
			if e != x.want {
				t.Errorf("P4.7: the error of %s of %d in %v is %d, not %d", name, x.chain, x.years, e, x.want)
			}
			if e != api.OK && (l.Chain != 0 || l.Year != 0 || len(l.Long) != 0) || e == api.OK && len(l.Long) != x.years.Hi-x.years.Lo+1 {
				t.Errorf("P4.7: %s of %d in %v is %v", name, x.chain, x.years, l)
			}
		}
	}
}

func TestFits(t *testing.T) {
	w := mended(example(), repair(9, 1, 1815, 9500, 9600))
	ahead := mended(plus(example(), proof(4, 1, 1803, 10100, 10100)), repair(9, 1, 1815, 9500, 9600))
	behind := plus(w, proof(4, 1, 1816, 10100, 10100))
	beside := w
	beside.Chains = append(beside.Chains, chain(2, 1800, 9000, 9000, 0))
	beside = plus(beside, proof(6, 2, 1800, 9001, 9001))
	for i, x := range []struct {
		w    api.Works
		year int
		long []int
		bad  int
	}{
		{w, 1800, []int{10000}, -1}, {w, 1800, []int{10010}, -1}, {w, 1800, []int{9999}, 1800}, {w, 1800, []int{10011}, 1800},
		{w, 1800, []int{10003, 10003, 10008, 10010}, -1}, {w, 1800, []int{10003, 10002}, 1801}, {w, 1800, []int{10003, 10009}, 1801}, {w, 1800, []int{10003, 10008, 10014, 10014}, 1802},
		{w, 1805, []int{10000, 10005, 10010, 10015, 10020}, -1}, {w, 1805, []int{10000, 10000, 10004}, 1807}, {w, 1806, []int{10000, 10005, 10010, 10015, 10020}, -1}, {w, 1806, []int{10000, 10004, 10009}, 1807},
		{w, 1813, []int{10045, 10050, 9500, 9505}, -1}, {w, 1813, []int{10020, 10020, 9600, 9605}, -1}, {w, 1813, []int{10020, 10020, 9601}, 1815}, {w, 1813, []int{10020, 10020, 9600, 9599}, 1816},
		{w, lastYear, []int{longest}, -1}, {w, lastYear, []int{longest + 1}, lastYear}, {w, lastYear - 1, []int{9500, 9506}, lastYear}, {w, lastYear - 1, []int{longest, longest + 1}, lastYear},
		{w, 1800, []int{math.MinInt64}, 1800}, {w, 1800, []int{math.MaxInt64}, 1800}, {w, 1800, []int{10000, math.MinInt64}, 1801}, {w, 1800, []int{10000, math.MaxInt64, 7}, 1801},
		{ahead, 1800, []int{10000}, 1800}, {ahead, 1815, []int{9500}, 1815}, {ahead, 1850, []int{9500, 9500}, 1850},
		{behind, 1800, []int{10000, 10000}, 1800}, {behind, 1815, []int{9500}, 1815},
		{beside, 1800, []int{10000, 10000}, -1},
	} {
		year, is := chainage.Fits(x.w, api.Wear{Chain: 1, Year: x.year, Long: x.long})
		if year != x.bad || is != (x.bad == -1) {
			t.Errorf("P4.6: Fits %d, of %v from %d, is %d, %v, not %d", i, x.long, x.year, year, is, x.bad)
		}
	}
}

func TestFitsOfNothing(t *testing.T) {
	w := example()
	l := []api.Wear{
		{}, {Chain: 1, Year: 1800}, {Chain: 1, Year: 1800, Long: []int{}}, {Chain: 2, Year: 1800, Long: []int{10000}}, {Chain: 0, Year: 1800, Long: []int{10000}},
		{Chain: 1, Year: lastYear, Long: []int{10500, 10500}}, {Chain: 1, Year: lastYear - 1, Long: []int{10500, 10500, 10500}}, {Chain: 1, Year: 1800, Long: slices.Repeat([]int{10010}, 2202)},
		{Chain: 1, Year: 1799, Long: slices.Repeat([]int{10010}, 2202)},
	}
	for _, year := range wrongYears() {
		l = append(l, api.Wear{Chain: 1, Year: year, Long: []int{10000}}, api.Wear{Chain: 1, Year: year, Long: []int{10000, 10000}})
	}
	for _, x := range l {
		if year, is := chainage.Fits(w, x); year != -1 || is {
			t.Errorf("P4.6: Fits of %v is %d, %v", x, year, is)
		}
	}
	for _, wrong := range wrongWorks() {
		for _, w := range wrong {
			if year, is := chainage.Fits(w, api.Wear{Chain: 1, Year: 1800, Long: []int{10000}}); year != -1 || is {
				t.Errorf("P4.6: Fits of works that are not valid is %d, %v", year, is)
			}
		}
	}
	steady := one(chain(1, 1800, 10000, 10010, 5))
	if year, is := chainage.Fits(steady, api.Wear{Chain: 1, Year: 1800, Long: slices.Repeat([]int{10010}, 2201)}); year != -1 || !is {
		t.Errorf("P4.6: Fits of all years is %d, %v", year, is)
	}
}

// firstMisfit returns the first year up to which there are no possible lengths with those that are asked for, or -1.
func firstMisfit(w api.Works, c api.Chain, x api.Wear) int {
	var asked []told
	for i, long := range x.Long {
		asked = append(asked, told{-1, x.Year + i, span(long, long)})
		for _, s := range spellsOf(w, c) {
			things := slices.Concat(thingsIn(w, c, s), asked)
			if _, is := ends(lengths(s, c.Wear, things)[0]); !is {
				return x.Year + i
			}
		}
	}
	return -1
}

// randomWear returns lengths in some years, which begin with what is true, and go on by what follows, or nearly so.
func randomWear(r *rand.Rand, l lived) api.Wear {
	x := api.Wear{Chain: l.chain.ID, Year: l.chain.Year + r.IntN(len(l.long))}
	for i := range 1 + r.IntN(min(6, lastYear-x.Year+1)) {
		long := l.in(x.Year + i)
		switch r.IntN(12) {
		case 0:
			long += r.IntN(41) - 20
		case 1:
			long += r.IntN(3) - 1
		}
		x.Long = append(x.Long, long)
	}
	return x
}

func TestFitsOfRandomLengths(t *testing.T) {
	r := newRand(4, 6)
	seen := map[bool]int{}
	for range 500 {
		w, lives := randomWorks(r, 1, 3975, []int{0, 0, 5}[r.IntN(3)])
		c, x := w.Chains[0], randomWear(r, lives[0])
		want := firstMisfit(w, c, x)
		if year, is := chainage.Fits(w, x); year != want || is != (want == -1) {
			t.Fatalf("P4.6: Fits of %v for %v is %d, %v, not %d", x, w, year, is, want)
		}
		seen[want == -1]++
	}
	if seen[true] < 100 || seen[false] < 100 {
		t.Errorf("P4.6: these lengths test little: %v", seen)
	}
}
