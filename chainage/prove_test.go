package chainage_test

import (
	"testing"

	"boundstone/api"
	"boundstone/chainage"
)

func TestProveOfExamples(t *testing.T) {
	mendedOnce := mended(example(), repair(9, 1, 1815, 9500, 9600))
	for _, x := range []struct {
		w     api.Works
		year  int
		years api.Span
		want  int
	}{
		{example(), 1805, span(1800, 1810), 1805},
		{example(), 1805, span(1800, 1804), 1804}, // 1804 leaves 5 open, 1803 leaves 10
		{example(), 1805, span(1806, 1830), 1806},
		{example(), 1820, span(1811, 1815), 1815},
		{example(), 1820, span(1830, 1840), 1830},
		{example(), 1820, span(2000, 2399), 2000},
		{mendedOnce, 1805, span(1815, 1830), 1815},
		{mendedOnce, 1805, span(1812, 1830), 1812},
		{mendedOnce, 1820, span(1800, 1814), 1800},
		{mendedOnce, 1820, span(1800, 1816), 1816},
		{one(chain(1, 1800, 10000, 10000, 0)), 1900, span(1950, 2000), 1950},
	} {
		if year, e := chainage.Prove(x.w, 1, x.year, x.years); year != x.want || e != api.OK {
			t.Errorf("P4.12: Prove for %d in %v is %d, %d, not %d", x.year, x.years, year, e, x.want)
		}
	}
}

// proveOf finds what Prove returns by the possible lengths with each further proof.
func proveOf(w api.Works, c api.Chain, year int, years api.Span) int {
	best, least := 0, longest
	for y := years.Lo; y <= years.Hi; y++ {
		ends, _ := longOf(w, c, y, all)
		use := 0
		for _, n := range []int{ends.Lo, ends.Hi} {
			s, _ := longOf(plus(w, proof(greatID, c.ID, y, n, n)), c, year, all)
			use = max(use, s.Hi-s.Lo)
		}
		if use < least {
			best, least = y, use
		}
	}
	return best
}

func TestProveOfRandomWorks(t *testing.T) {
	r := newRand(4, 12)
	away := 0
	for range 150 {
		w, _ := randomWorks(r, 1, 3980, 0)
		c, year := randomChain(r, w)
		lo := c.Year + r.IntN(lastYear-c.Year+1)
		years := span(lo, min(lastYear, lo+r.IntN(8)))
		want := proveOf(w, c, year, years)
		if got, e := chainage.Prove(w, c.ID, year, years); got != want || e != api.OK {
			t.Fatalf("P4.12: Prove for %d in %v of %v is %d, %d, not %d", year, years, w, got, e, want)
		}
		if want != years.Lo && want != year {
			away++
		}
	}
	if away < 10 {
		t.Errorf("P4.12: these works test little: %d", away)
	}
}

func TestErrorsOfProve(t *testing.T) {
	early := full()
	early.Repairs[0] = repair(41, 1, 2600, 10000, 10000)
	early.Proofs[0] = proof(1, 1, 2500, 9000, 9000)
	for i, x := range []struct {
		w           api.Works
		chain, year int
		years       api.Span
		want        api.Errno
	}{
		{clashing(), 3, -1, span(5, 4), api.ErrNone},
		{clashing(), 1, 1799, span(1825, 1824), api.ErrArg},
		{clashing(), 1, 1825, span(5, 4), api.ErrClash},
		{clashing(), 1, 1825, span(1800, lastYear), api.ErrClash},
		{clashing(), 1, 1805, span(5, 4), api.ErrArg},
		{clashing(), 1, 1805, span(1799, 1805), api.ErrArg},
		{clashing(), 1, 1805, span(1805, lastYear+1), api.ErrArg},
		{clashing(), 1, 1805, span(1800, 2200), api.ErrLimit},
		{clashing(), 1, 1805, span(1800, 2199), api.ErrClash},
		{clashing(), 1, 1805, span(1820, 1820), api.ErrClash},
		{clashing(), 1, 1805, span(1800, 1819), api.OK},
		{clashing(), 1, 1805, span(1830, 1832), api.OK},
		{clashing(), 2, 1825, span(1824, 1832), api.OK},
		{full(), 1, 1825, span(1824, 1832), api.ErrLimit},
		{full(), 1, 1825, span(9, 8), api.ErrArg},
		{full(), 30, 1825, span(1824, 1832), api.ErrNone},
		{less(full(), 60), 1, 1825, span(1824, 1832), api.OK},
		{less(full(), 1), 1, 1825, span(1824, 1832), api.OK},
		{early, 1, 2700, span(2500, 2500), api.ErrClash},
		{early, 1, 2500, span(2700, 2700), api.ErrClash},
		{early, 1, 2700, span(2700, 2700), api.ErrLimit},
	} {
		year, e := chainage.Prove(x.w, x.chain, x.year, x.years)
		if e != x.want || e != api.OK && year != 0 {
			t.Errorf("P4.12: Prove %d is %d, %d, not %d", i, year, e, x.want)
		}
	}
}
