package chainage_test

import (
	"math"
	"reflect"
	"slices"
	"testing"

	"boundstone/api"
	"boundstone/chainage"
)

func TestCheckAccepts(t *testing.T) {
	for _, w := range []api.Works{
		{}, example(), clashing(), full(),
		one(chain(1, 0, shortest, longest, 0)),
		one(chain(greatID, lastYear, shortest, shortest, 1000), proof(1, greatID, lastYear, longest, longest)),
		one(chain(1, 0, longest, longest, 1000), proof(greatID, 1, 0, shortest, longest), proof(1, 1, 0, shortest, shortest)),
		mended(one(chain(1, 0, 10000, 10000, 0)), repair(greatID, 1, lastYear, shortest, longest)),
		mended(one(chain(1, 5, 10000, 10000, 0), proof(2, 1, 6, 10000, 10000)), repair(1, 1, 6, longest, longest)),
		mended(mended(api.Works{Chains: []api.Chain{chain(1, 5, 10000, 10000, 0), chain(2, 5, 10000, 10000, 0)}}, repair(1, 1, 6, 9000, 9000)), repair(2, 2, 6, 9000, 9000)),
		{Chains: full().Chains, Proofs: slices.Concat(full().Proofs, shiftedProofs(full().Proofs[:20], 100))},
	} {
		if e := chainage.Check(w); e != api.OK {
			t.Errorf("P4.1: the error of %v is %d", w, e)
		}
	}
}

// shiftedProofs returns proofs with greater IDs.
func shiftedProofs(l []api.Proof, by int) []api.Proof {
	l = slices.Clone(l)
	for i := range l {
		l[i].ID += by
	}
	return l
}

// wrongWorks returns works that Check does not accept, with its errors.
func wrongWorks() map[api.Errno][]api.Works {
	bad := chain(0, 1800, 10000, 10010, 5)
	c := chain(1, 1800, 10000, 10010, 5)
	p, r := proof(3, 1, 1810, 10020, 10030), repair(4, 1, 1815, 10000, 10000)
	m := map[api.Errno][]api.Works{
		api.ErrLimit: {
			{Chains: slices.Repeat([]api.Chain{bad}, 21)},
			{Proofs: make([]api.Proof, 61)},
			{Repairs: make([]api.Repair, 61)},
			{Chains: []api.Chain{c, c}, Proofs: make([]api.Proof, 31), Repairs: make([]api.Repair, 30)},
			plus(full(), proof(61, 1, 2600, 10100, 10200)),
			mended(full(), repair(61, 1, 2600, 10100, 10200)),
			{Chains: append(full().Chains, chain(21, 5, 10000, 10000, 0))},
		},
		api.ErrTwice: {
			{Chains: []api.Chain{c, c}},
			{Chains: []api.Chain{c, chain(1, 1700, 9000, 9000, 0), bad}},
			one(c, p, p),
			one(c, p, proof(3, 1, 1801, 9000, 9000), proof(0, 1, 1801, 9000, 9000)),
			{Chains: []api.Chain{c, chain(2, 1700, 9000, 9000, 0)}, Proofs: []api.Proof{p, proof(3, 2, 1801, 9000, 9000)}},
			mended(one(c, p), repair(3, 1, 1815, 10000, 10000)),
			mended(mended(one(c), r), r),
			mended(mended(one(c), r), repair(4, 1, 1816, 10000, 10000)),
			mended(mended(one(c), r), repair(5, 1, 1815, 10001, 10001)),
			mended(mended(mended(one(c), r), repair(5, 1, 1816, 10001, 10001)), repair(6, 1, 1815, 10001, 10001)),
			mended(mended(one(c, p), repair(3, 1, 1815, 10000, 10000)), repair(0, 1, 1815, 10000, 10000)),
		},
		api.ErrArg: {
			{Chains: []api.Chain{c, bad}}, {Chains: []api.Chain{c, bad, c}}, {Chains: []api.Chain{bad, bad}}, {Chains: []api.Chain{c, {ID: 1}}},
			{Proofs: []api.Proof{p}}, {Repairs: []api.Repair{r}},
			one(c, p, api.Proof{}), one(c, p, proof(3, 2, 1810, 10020, 10030)), one(bad, p, p),
			mended(mended(one(c, p), r), api.Repair{}), mended(mended(one(c, p), r), repair(4, 2, 1815, 10000, 10000)),
			mended(one(c, proof(3, 1, 1, 1, 1)), repair(3, 1, 1815, 10000, 10000)),
		},
	}
	return m
}

// wrongThings returns works in which one number of a chain, a proof or a repair is wrong.
func wrongThings() []api.Works {
	c, p, r := chain(1, 1800, 10000, 10010, 5), proof(3, 1, 1810, 10020, 10030), repair(4, 1, 1815, 10000, 10000)
	var l []api.Works
	add := func(c api.Chain, p api.Proof, r api.Repair) {
		l = append(l, mended(one(c, p), r))
	}
	for _, id := range wrongIDs() {
		l = append(l, one(chain(id, 1800, 10000, 10010, 5)))
		add(c, proof(id, 1, 1810, 10020, 10030), r)
		add(c, p, repair(id, 1, 1815, 10000, 10000))
		add(c, proof(3, id, 1810, 10020, 10030), r)
		add(c, p, repair(4, id, 1815, 10000, 10000))
	}
	for _, year := range []int{-1, lastYear + 1, math.MinInt64, math.MaxInt64} {
		l = append(l, one(chain(1, year, 10000, 10010, 5)))
	}
	for _, year := range wrongYears() {
		add(c, proof(3, 1, year, 10020, 10030), r)
		add(c, p, repair(4, 1, year, 10000, 10000))
	}
	add(c, p, repair(4, 1, 1800, 10000, 10000))
	for _, wear := range []int{-1, 1001, math.MinInt64, math.MaxInt64} {
		l = append(l, one(chain(1, 1800, 10000, 10010, wear)))
	}
	for _, s := range wrongLongs() {
		l = append(l, one(chain(1, 1800, s.Lo, s.Hi, 5)))
		add(c, proof(3, 1, 1810, s.Lo, s.Hi), r)
		add(c, p, repair(4, 1, 1815, s.Lo, s.Hi))
	}
	return l
}

func TestCheckRefuses(t *testing.T) {
	for want, l := range wrongWorks() {
		for i, w := range l {
			if e := chainage.Check(w); e != want {
				t.Errorf("P4.1: the error of the works %d, %v, is %d, not %d", i, w, e, want)
			}
		}
	}
	for _, w := range wrongThings() {
		if e := chainage.Check(w); e != api.ErrArg {
			t.Errorf("P4.1: the error of %v is %d", w, e)
		}
	}
}

// calls returns what each function with works and an error returns: its results, and last the error.
func calls(w api.Works, id, year int, years api.Span, m api.Measure) map[string][]any {
	results := func(l ...any) []any { return l }
	way := []api.Measure{m, m}
	return map[string][]any{
		"Spell":    results(chainage.Spell(w, id, year)),
		"Long":     results(chainage.Long(w, id, year)),
		"Rests":    results(chainage.Rests(w, id, year)),
		"Clash":    results(chainage.Clash(w)),
		"Clashes":  results(chainage.Clashes(w)),
		"Suspects": results(chainage.Suspects(w)),
		"Without":  results(chainage.Without(w, []int{id})),
		"Merge":    results(chainage.Merge(w, api.Works{Chains: make([]api.Chain, 1)})),
		"Shortest": results(chainage.Shortest(w, id, years)),
		"Longest":  results(chainage.Longest(w, id, years)),
		"Distance": results(chainage.Distance(w, m)),
		"Total":    results(chainage.Total(w, way)),
		"Closes":   results(chainage.Closes(w, way, way)),
		"Needed":   results(chainage.Needed(w, m)),
		"Prove":    results(chainage.Prove(w, id, year, years)),
	}
}

// isNothing reports whether a result is a zero value, or a list of nothing.
func isNothing(x any) bool {
	v := reflect.ValueOf(x)
	return v.IsZero() || v.Kind() == reflect.Slice && v.Len() == 0
}

// checkNothing checks that there is nothing beside errors.
func checkNothing(t *testing.T, l map[string][]any) {
	t.Helper()
	for name, l := range l {
		last := len(l) - 1
		for _, x := range l[:last] {
			if l[last] != api.OK && !isNothing(x) {
				t.Errorf("R4: together with the error %v %s returns %v", l[last], name, x)
			}
		}
	}
}

func TestErrorOfCheckComesFirst(t *testing.T) {
	for want, l := range wrongWorks() {
		for _, w := range l {
			results := calls(w, -1, -1, span(5, 4), api.Measure{})
			checkNothing(t, results)
			for name, l := range results {
				if e := l[len(l)-1]; e != want {
					t.Errorf("P4.1: the error of %s for works that are not valid is %v, not %v", name, e, want)
				}
			}
			if w, e := chainage.Merge(example(), w); e != want || !sameWorks(w, api.Works{}) {
				t.Errorf("P4.1: Merge with works that are not valid is %v, %d, not %d", w, e, want)
			}
		}
	}
	// The error of the first works comes first.
	if _, e := chainage.Merge(one(chain(0, 0, 0, 0, 0)), plus(full(), proof(61, 1, 2600, 10100, 10200))); e != api.ErrArg {
		t.Errorf("P4.3: the error of Merge is %d", e)
	}
	long := make([]api.Measure, 101)
	if _, e := chainage.Total(one(chain(0, 0, 0, 0, 0)), long); e != api.ErrArg {
		t.Errorf("P4.9: the error of Total is %d", e)
	}
}

func TestNothingBesideErrors(t *testing.T) {
	for _, w := range []api.Works{{}, example(), clashing(), full()} {
		for _, id := range []int{-1, 0, 1, 9} {
			for _, year := range []int{-1, 1805, 1825, 1835, 5000} {
				for _, years := range []api.Span{{}, span(1805, 1806), span(1810, 1825), span(1805, 2205), span(6, 5)} {
					checkNothing(t, calls(w, id, year, years, measure(id, year, 5, 5, 5)))
				}
			}
		}
	}
}

func TestWithout(t *testing.T) {
	w := clashing()
	for _, x := range []struct {
		ids  []int
		want api.Works
	}{
		{nil, w},
		{[]int{}, w},
		{[]int{8, 1, 2, greatID, 8}, w},
		{[]int{4}, less(w, 4)},
		{[]int{6, 1, 6}, less(w, 6)},
		{[]int{7, 3}, less(w, 3, 7)},
		{[]int{7, 6, 5, 4, 3}, api.Works{Chains: w.Chains}},
	} {
		got, e := chainage.Without(w, x.ids)
		if e != api.OK || !sameWorks(got, x.want) {
			t.Errorf("P4.3: Without of %v is %v, %d", x.ids, got, e)
		}
	}
	for _, id := range wrongIDs() {
		for _, ids := range [][]int{{id}, {3, id}, {id, 9}} {
			got, e := chainage.Without(w, ids)
			if e != api.ErrArg || !sameWorks(got, api.Works{}) {
				t.Errorf("P4.3: Without of %v is %v, %d", ids, got, e)
			}
		}
	}
}

func TestMerge(t *testing.T) {
	c1, c2, c3 := chain(1, 1800, 10000, 10010, 5), chain(2, 1700, 9990, 10000, 0), chain(3, 5, 9990, 10000, 0)
	p4, p5, p9 := proof(4, 1, 1825, 10100, 10100), proof(5, 2, 1825, 10100, 10100), proof(9, 1, 1825, 10100, 10100)
	r6, r7, r8 := repair(6, 1, 1820, 10000, 10000), repair(7, 2, 1820, 10000, 10000), repair(8, 1, 1821, 10000, 10000)
	a := api.Works{Chains: []api.Chain{c2, c1}, Proofs: []api.Proof{p9, p4}, Repairs: []api.Repair{r8, r6}}
	b := api.Works{Chains: []api.Chain{c3, c2}, Proofs: []api.Proof{p5}, Repairs: []api.Repair{r7}}
	both := api.Works{Chains: []api.Chain{c1, c2, c3}, Proofs: []api.Proof{p4, p5, p9}, Repairs: []api.Repair{r6, r7, r8}}
	sorted := api.Works{Chains: []api.Chain{c1, c2}, Proofs: []api.Proof{p4, p9}, Repairs: []api.Repair{r6, r8}}
	for _, x := range []struct{ a, b, want api.Works }{
		{a, b, both}, {b, a, both}, {a, a, sorted}, {a, both, both}, {both, b, both}, {a, api.Works{}, sorted}, {api.Works{}, a, sorted},
		{api.Works{}, api.Works{}, api.Works{}},
		{full(), full(), full()},
		{one(c1, p4), mended(one(c1), r6), mended(one(c1, p4), r6)},
	} {
		got, e := chainage.Merge(x.a, x.b)
		if e != api.OK || !sameWorks(got, x.want) {
			t.Errorf("P4.3: Merge of %v and %v is %v, %d", x.a, x.b, got, e)
		}
	}
}

func TestErrorsOfMerge(t *testing.T) {
	c, other := chain(1, 1800, 10000, 10010, 5), chain(2, 1800, 10000, 10010, 5)
	p, r := proof(3, 1, 1810, 10020, 10030), repair(4, 1, 1815, 10000, 10000)
	two := api.Works{Chains: []api.Chain{c, other}}
	seven := func(w api.Works) api.Works {
		w.Chains = append(slices.Clone(w.Chains), chain(77, 1, 10000, 10000, 0))
		return w
	}
	for _, x := range []struct {
		a, b api.Works
		want api.Errno
	}{
		{one(c), one(chain(1, 1801, 10000, 10010, 5)), api.ErrTwice},
		{one(c), one(chain(1, 1800, 10001, 10010, 5)), api.ErrTwice},
		{one(c), one(chain(1, 1800, 10000, 10010, 6)), api.ErrTwice},
		{one(c, p), one(c, proof(3, 1, 1811, 10020, 10030)), api.ErrTwice},
		{plus(two, p), plus(two, proof(3, 2, 1810, 10020, 10030)), api.ErrTwice},
		{one(c, p), one(c, proof(3, 1, 1810, 10020, 10031)), api.ErrTwice},
		{one(c, p), mended(one(c), repair(3, 1, 1810, 10020, 10030)), api.ErrTwice},
		{mended(one(c), repair(3, 1, 1810, 10020, 10030)), one(c, p), api.ErrTwice},
		{mended(one(c), r), mended(one(c), repair(4, 1, 1816, 10000, 10000)), api.ErrTwice},
		{mended(one(c), r), mended(one(c), repair(4, 1, 1815, 10000, 10001)), api.ErrTwice},
		{mended(one(c), r), mended(one(c), repair(5, 1, 1815, 10000, 10000)), api.ErrTwice},
		{mended(mended(one(c), r), repair(6, 1, 1817, 10000, 10000)), mended(mended(one(c), repair(5, 1, 1816, 10000, 10000)), repair(2, 1, 1817, 10000, 10000)), api.ErrTwice},
		{mended(two, r), mended(two, repair(5, 2, 1815, 10000, 10000)), api.OK},
		{mended(one(c), r), one(c, proof(5, 1, 1815, 10000, 10000)), api.OK},
		{one(chain(4, 1800, 10000, 10010, 5), proof(5, 4, 1815, 10000, 10000)), one(chain(5, 1800, 10000, 10010, 5), proof(4, 5, 1815, 10000, 10000)), api.OK},
		{full(), one(chain(21, 1800, 10000, 10010, 5)), api.ErrLimit},
		{full(), plus(full(), proof(61, 1, 5, 10000, 10000)), api.ErrLimit},
		{full(), one(full().Chains[0], proof(61, 1, 5, 10000, 10000)), api.ErrLimit},
		{full(), mended(one(full().Chains[0]), repair(61, 1, 5, 10000, 10000)), api.ErrLimit},
		{full(), one(full().Chains[0], full().Proofs[0]), api.OK},
		{full(), one(chain(20, 1800, 10000, 10010, 5)), api.ErrTwice},
		{full(), seven(one(chain(20, 1800, 10000, 10010, 5))), api.ErrTwice},
		{full(), seven(one(full().Chains[0], proof(1, 1, 5, 10000, 10000))), api.ErrTwice},
		{full(), seven(mended(one(full().Chains[0]), repair(61, 1, 3000, 10000, 10000))), api.ErrTwice},
	} {
		got, e := chainage.Merge(x.a, x.b)
		errorIs(t, "P4.3: Merge", e, x.want)
		if e != api.OK && !sameWorks(got, api.Works{}) {
			t.Errorf("R4: together with the error %d Merge returns %v", e, got)
		}
	}
}

func TestMergeOfRandomParts(t *testing.T) {
	r := newRand(4, 3)
	for range 500 {
		w, _ := randomWorks(r, 1+r.IntN(3), 3980, 50)
		var one, two []int
		for _, id := range idsOf(w) {
			if n := r.IntN(3); n == 0 {
				one = append(one, id)
			} else if n == 1 {
				two = append(two, id)
			}
		}
		a, _ := chainage.Without(w, one)
		b, _ := chainage.Without(shuffled(r, w), two)
		got, e := chainage.Merge(a, b)
		want, _ := chainage.Merge(w, api.Works{})
		if e != api.OK || !sameWorks(got, want) || chainage.Check(got) != api.OK || len(got.Proofs) != len(w.Proofs) || len(got.Repairs) != len(w.Repairs) {
			t.Fatalf("P4.3: Merge of %v and %v is %v, %d", a, b, got, e)
		}
		again, _ := chainage.Merge(b, a)
		if !sameWorks(got, again) || !slices.IsSortedFunc(got.Chains, func(a, b api.Chain) int { return a.ID - b.ID }) {
			t.Fatalf("P4.3: Merge turned round is %v, not %v", again, got)
		}
	}
}

func TestNothingIsShared(t *testing.T) {
	w := clashing()
	before, ids, way := copied(w), []int{7, 5}, []api.Measure{measure(1, 1805, 1, 1, 1)}
	years := []int{10000, 10001}
	calls(w, 1, 1805, span(1801, 1815), way[0])
	chainage.Check(w)
	chainage.Fits(w, api.Wear{Chain: 2, Year: 1800, Long: years})
	chainage.Total(w, way)
	chainage.Closes(w, way, way)
	without, _ := chainage.Without(w, ids)
	same, _ := chainage.Without(w, nil)
	merged, _ := chainage.Merge(w, w)
	for _, x := range []api.Works{without, same, merged} {
		for i := range x.Chains {
			x.Chains[i] = api.Chain{}
		}
		for i := range x.Proofs {
			x.Proofs[i] = api.Proof{}
		}
		for i := range x.Repairs {
			x.Repairs[i] = api.Repair{}
		}
	}
	if !sameWorks(w, before) || !slices.Equal(ids, []int{7, 5}) || !slices.Equal(years, []int{10000, 10001}) || way[0] != measure(1, 1805, 1, 1, 1) {
		t.Errorf("R6: a call, or a change of its result, changes the works to %v", w)
	}
}

func TestArgumentsWithMoreMemory(t *testing.T) {
	w := clashing()
	proofs := append(make([]api.Proof, 0, 10), w.Proofs...)
	repairs := append(make([]api.Repair, 0, 10), w.Repairs...)
	chains := append(make([]api.Chain, 0, 10), w.Chains...)
	calls(api.Works{Chains: chains, Proofs: proofs, Repairs: repairs}, 1, 1805, span(1801, 1815), measure(1, 1805, 1, 1, 1))
	for i := range 5 {
		if proofs[:10][i+len(proofs)] != (api.Proof{}) || repairs[:10][i+len(repairs)] != (api.Repair{}) || chains[:10][i+len(chains)] != (api.Chain{}) {
			t.Fatalf("R6: a call writes behind the lists of works")
		}
	}
}
