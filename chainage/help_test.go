package chainage_test

import (
	"cmp"
	"math"
	"math/rand/v2"
	"slices"
	"testing"

	"boundstone/api"
)

const (
	shortest = 9000  // points of the shortest chain
	longest  = 12000 // points of the longest chain
	lastYear = 4000
	greatID  = 1 << 40
)

func span(lo, hi int) api.Span { return api.Span{Lo: lo, Hi: hi} }

func chain(id, year, lo, hi, wear int) api.Chain {
	return api.Chain{ID: id, Year: year, Made: span(lo, hi), Wear: wear}
}

func proof(id, chain, year, lo, hi int) api.Proof {
	return api.Proof{ID: id, Chain: chain, Year: year, Long: span(lo, hi)}
}

func repair(id, chain, year, lo, hi int) api.Repair {
	return api.Repair{ID: id, Chain: chain, Year: year, Made: span(lo, hi)}
}

func measure(chain, year, chains, links, slack int) api.Measure {
	return api.Measure{Chain: chain, Year: year, Chains: chains, Links: links, Slack: slack}
}

// one returns the works of a chain.
func one(c api.Chain, proofs ...api.Proof) api.Works {
	return api.Works{Chains: []api.Chain{c}, Proofs: proofs}
}

func copied(w api.Works) api.Works {
	return api.Works{Chains: slices.Clone(w.Chains), Proofs: slices.Clone(w.Proofs), Repairs: slices.Clone(w.Repairs)}
}

// plus returns works with one more proof.
func plus(w api.Works, p api.Proof) api.Works {
	w.Proofs = append(slices.Clone(w.Proofs), p)
	return w
}

// mended returns works with one more repair.
func mended(w api.Works, r api.Repair) api.Works {
	w.Repairs = append(slices.Clone(w.Repairs), r)
	return w
}

func sameWorks(a, b api.Works) bool {
	return slices.Equal(a.Chains, b.Chains) && slices.Equal(a.Proofs, b.Proofs) && slices.Equal(a.Repairs, b.Repairs)
}

// example returns the works of the chapter's examples.
func example() api.Works {
	return one(chain(1, 1800, 10000, 10010, 5), proof(3, 1, 1810, 10020, 10030))
}

// clashing returns works of two chains: of the first one the second spell contradicts itself, and the first and the last one do not; the second one agrees.
func clashing() api.Works {
	return api.Works{
		Chains:  []api.Chain{chain(1, 1800, 10000, 10010, 5), chain(2, 1700, 9990, 10000, 0)},
		Proofs:  []api.Proof{proof(3, 1, 1810, 10020, 10030), proof(4, 1, 1825, 10100, 10100), proof(5, 1, 1835, 10000, 10020)},
		Repairs: []api.Repair{repair(7, 1, 1830, 10000, 10010), repair(6, 1, 1820, 10000, 10000)},
	}
}

// full returns works with as many chains, proofs and repairs as are allowed, which agree.
func full() api.Works {
	var w api.Works
	for i := range 20 {
		w.Chains = append(w.Chains, chain(i+1, 100*i, 10000, 10000, 10))
	}
	for i := range 40 {
		w.Proofs = append(w.Proofs, proof(i+1, 1+i%20, 2500+i, 10100, 10200))
	}
	for i := range 20 {
		w.Repairs = append(w.Repairs, repair(i+41, i+1, 3000, 10000, 10000))
	}
	return w
}

// told is a thing of a chain, as the slow reading sees it.
type told struct {
	number, year int
	long         api.Span
}

// thingsIn returns the making, the proofs and the repairs of a chain that lie in a spell.
func thingsIn(w api.Works, c api.Chain, years api.Span) []told {
	l := []told{{0, c.Year, c.Made}}
	for _, p := range w.Proofs {
		if p.Chain == c.ID {
			l = append(l, told{p.ID, p.Year, p.Long})
		}
	}
	for _, r := range w.Repairs {
		if r.Chain == c.ID {
			l = append(l, told{r.ID, r.Year, r.Made})
		}
	}
	return slices.DeleteFunc(l, func(x told) bool { return x.year < years.Lo || x.year > years.Hi })
}

// spellAround goes from a year back to the year in which its spell begins, and on to the last one ahead of a repair.
func spellAround(w api.Works, c api.Chain, year int) api.Span {
	mends := func(year int) bool {
		return slices.ContainsFunc(w.Repairs, func(r api.Repair) bool { return r.Chain == c.ID && r.Year == year })
	}
	s := span(year, year)
	for s.Lo != c.Year && !mends(s.Lo) {
		s.Lo--
	}
	for s.Hi != lastYear && !mends(s.Hi+1) {
		s.Hi++
	}
	return s
}

// spellsOf returns the spells of a chain.
func spellsOf(w api.Works, c api.Chain) []api.Span {
	var l []api.Span
	for year := c.Year; year <= lastYear; year = l[len(l)-1].Hi + 1 {
		l = append(l, spellAround(w, c, year))
	}
	return l
}

// allowed returns the lengths that some things allow in a year.
func allowed(things []told, year int) api.Span {
	s := span(shortest, longest)
	for _, x := range things {
		if x.year == year {
			s = span(max(s.Lo, x.long.Lo), min(s.Hi, x.long.Hi))
		}
	}
	return s
}

// ways returns, for each year of a spell, which lengths can be reached by lengths of the years before that some things allow; back, by lengths of the years behind.
func ways(years api.Span, wear int, things []told, back bool) [][]bool {
	l := make([][]bool, years.Hi-years.Lo+1)
	var before []bool
	for i := range l {
		year := years.Lo + i
		if back {
			year = years.Hi - i
		}
		now := make([]bool, longest-shortest+1)
		s := allowed(things, year)
		near := 0 // how many possible lengths of the year before are at most the wear away
		for j := range now {
			k, far := j, j-wear-1
			if back {
				k, far = longest-shortest-j, longest-shortest-j+wear+1
			}
			if i > 0 && before[k] {
				near++
			}
			if i > 0 && far >= 0 && far < len(now) && before[far] {
				near--
			}
			now[k] = (i == 0 || near > 0) && s.Lo <= shortest+k && shortest+k <= s.Hi
		}
		l[year-years.Lo], before = now, now
	}
	return l
}

// lengths returns, for each year of a spell, which lengths are possible with some things: those that are reached from both sides.
func lengths(years api.Span, wear int, things []told) [][]bool {
	there, back := ways(years, wear, things, false), ways(years, wear, things, true)
	for i := range there {
		for j := range there[i] {
			there[i][j] = there[i][j] && back[i][j]
		}
	}
	return there
}

// ends returns the least and the greatest length of those that are possible; false if there are none.
func ends(possible []bool) (api.Span, bool) {
	lo := slices.Index(possible, true)
	if lo < 0 {
		return api.Span{}, false
	}
	hi := lo
	for i, is := range possible {
		if is {
			hi = i
		}
	}
	return span(shortest+lo, shortest+hi), true
}

// longOf returns the least and the greatest possible length in a year, with some of the things of the spell; false if there are none.
func longOf(w api.Works, c api.Chain, year int, some func(told) bool) (api.Span, bool) {
	years := spellAround(w, c, year)
	things := slices.DeleteFunc(thingsIn(w, c, years), func(x told) bool { return !some(x) })
	return ends(lengths(years, c.Wear, things)[year-years.Lo])
}

func all(told) bool { return true }

// hasLengths reports whether there are possible lengths of a chain.
func hasLengths(w api.Works, c api.Chain) bool {
	for _, s := range spellsOf(w, c) {
		if _, is := longOf(w, c, s.Lo, all); !is {
			return false
		}
	}
	return true
}

// pairsOf returns the pairs of numbers that contradict each other, trying the possible lengths of all pairs.
func pairsOf(w api.Works) [][2]int {
	var pairs [][2]int
	for _, c := range w.Chains {
		var l [][2]int
		for _, s := range spellsOf(w, c) {
			things := thingsIn(w, c, s)
			for _, a := range things {
				for _, b := range things {
					if _, is := ends(lengths(s, c.Wear, []told{a, b})[0]); !is && a.number < b.number {
						l = append(l, [2]int{a.number, b.number})
					}
				}
			}
		}
		slices.SortFunc(l, func(a, b [2]int) int { return cmp.Or(cmp.Compare(a[0], b[0]), cmp.Compare(a[1], b[1])) })
		pairs = append(pairs, l...)
	}
	return pairs
}

// idsOf returns the IDs of the proofs and repairs in increasing order.
func idsOf(w api.Works) []int {
	var l []int
	for _, p := range w.Proofs {
		l = append(l, p.ID)
	}
	for _, r := range w.Repairs {
		l = append(l, r.ID)
	}
	slices.Sort(l)
	return l
}

// less returns works without some proofs and repairs.
func less(w api.Works, ids ...int) api.Works {
	rest := api.Works{Chains: w.Chains}
	for _, p := range w.Proofs {
		if !slices.Contains(ids, p.ID) {
			rest.Proofs = append(rest.Proofs, p)
		}
	}
	for _, r := range w.Repairs {
		if !slices.Contains(ids, r.ID) {
			rest.Repairs = append(rest.Repairs, r)
		}
	}
	return rest
}

// distances returns the least and the greatest distance of a measure for a chain of some points, by trying numbers near it.
func distances(m api.Measure, points int) api.Span {
	n := 100*m.Chains + m.Links
	few, many := (n-m.Slack)*points, (n+m.Slack)*points
	lo := max(0, few/10000+2)
	for lo > 0 && 10000*lo > few {
		lo--
	}
	hi := max(0, many/10000-2)
	for 10000*hi < many {
		hi++
	}
	return span(lo, hi)
}

// distanceOf returns the least and the greatest distance of a measure over all possible lengths; false if there are none.
func distanceOf(w api.Works, m api.Measure) (api.Span, bool) {
	c := w.Chains[slices.IndexFunc(w.Chains, func(c api.Chain) bool { return c.ID == m.Chain })]
	long, is := longOf(w, c, m.Year, all)
	if !is {
		return api.Span{}, false
	}
	s := distances(m, long.Lo)
	for points := long.Lo; points <= long.Hi; points++ {
		other := distances(m, points)
		s = span(min(s.Lo, other.Lo), max(s.Hi, other.Hi))
	}
	return s, true
}

func newRand(a, b uint64) *rand.Rand { return rand.New(rand.NewPCG(a, b)) }

// lived is the true lengths of a chain, from its year on.
type lived struct {
	chain api.Chain
	long  []int
}

func (l lived) in(year int) int { return l.long[year-l.chain.Year] }

// around returns a span that has a length, and is valid.
func around(r *rand.Rand, long, most int) api.Span {
	return span(max(shortest, long-r.IntN(most+1)), min(longest, long+r.IntN(most+1)))
}

// randomLong returns a length, often at the limits.
func randomLong(r *rand.Rand) int {
	return []int{shortest + r.IntN(30), 10000 + r.IntN(100), longest - r.IntN(30)}[r.IntN(3)]
}

// randomWorks returns works of some chains that were made in a year from first on, as they lived. Of their proofs some are wrong, if that is asked for.
func randomWorks(r *rand.Rand, chains, first, wrong int) (api.Works, []lived) {
	var w api.Works
	var lives []lived
	ids := r.Perm(40)
	for i := range chains {
		l := lived{chain: chain(i+1, first+r.IntN(8), 0, 0, []int{0, 1, 3, 10, 1000}[r.IntN(5)])}
		slack := []int{0, 3, 40}[r.IntN(3)]
		for year := l.chain.Year; year <= lastYear; year++ {
			if year == l.chain.Year || r.IntN(14) == 0 {
				l.long = append(l.long, randomLong(r))
				if year > l.chain.Year {
					w.Repairs = append(w.Repairs, api.Repair{ID: 1 + ids[0], Chain: i + 1, Year: year, Made: around(r, l.in(year), slack)})
					ids = ids[1:]
				}
				continue
			}
			before := l.in(year - 1)
			l.long = append(l.long, min(longest, before+r.IntN(2)*r.IntN(l.chain.Wear+1)))
		}
		l.chain.Made = around(r, l.in(l.chain.Year), slack)
		for range r.IntN(6) {
			year := l.chain.Year + r.IntN(lastYear-l.chain.Year+1)
			long := l.in(year)
			if r.IntN(100) < wrong {
				long = min(longest, max(shortest, long+r.IntN(101)-50))
			}
			w.Proofs = append(w.Proofs, api.Proof{ID: 1 + ids[0], Chain: i + 1, Year: year, Long: around(r, long, slack)})
			ids = ids[1:]
		}
		w.Chains = append(w.Chains, l.chain)
		lives = append(lives, l)
	}
	return shuffled(r, w), lives
}

// shuffled returns works with their lists in another order.
func shuffled(r *rand.Rand, w api.Works) api.Works {
	w = copied(w)
	r.Shuffle(len(w.Chains), func(i, j int) { w.Chains[i], w.Chains[j] = w.Chains[j], w.Chains[i] })
	r.Shuffle(len(w.Proofs), func(i, j int) { w.Proofs[i], w.Proofs[j] = w.Proofs[j], w.Proofs[i] })
	r.Shuffle(len(w.Repairs), func(i, j int) { w.Repairs[i], w.Repairs[j] = w.Repairs[j], w.Repairs[i] })
	return w
}

// randomChain returns one of the chains, and one of its years.
func randomChain(r *rand.Rand, w api.Works) (api.Chain, int) {
	c := w.Chains[r.IntN(len(w.Chains))]
	return c, c.Year + r.IntN(lastYear-c.Year+1)
}

func randomMeasure(r *rand.Rand, w api.Works) api.Measure {
	c, year := randomChain(r, w)
	return measure(c.ID, year, r.IntN(4)*r.IntN(50), r.IntN(100), r.IntN(2)*r.IntN(200))
}

// wrongYears returns years that are none, or ahead of a chain of 1800.
func wrongYears() []int {
	return []int{1799, 0, -1, lastYear + 1, 1800 + 1<<32, math.MinInt64, math.MaxInt64}
}

// wrongIDs returns numbers that name nothing.
func wrongIDs() []int { return []int{0, -1, greatID + 1, math.MinInt64, math.MaxInt64} }

// wrongLongs returns what is no span of lengths.
func wrongLongs() []api.Span {
	return []api.Span{
		{}, span(10001, 10000), span(shortest-1, 10000), span(10000, longest+1), span(longest, shortest), span(0, 0),
		span(-10000, 10000), span(math.MinInt64, 10000), span(10000, math.MaxInt64), span(math.MaxInt64, math.MinInt64),
	}
}

func errorIs(t *testing.T, promise string, got, want api.Errno) {
	t.Helper()
	if got != want {
		t.Errorf("%s: the error is %d, not %d", promise, got, want)
	}
}
