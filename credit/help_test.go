package credit_test

import (
	"math/rand/v2"
	"reflect"
	"slices"
	"testing"

	"boundstone/api"
	"boundstone/credit"
	"boundstone/search"
)

const (
	square  = 1 << 44 // the greatest absolute value of an end of a span
	nodes   = 1 << 18 // the most nodes of a tree
	greatID = 1 << 40
	told    = 10000 // the most accounts of a record
)

func at(x, y int) api.Point { return api.Point{X: x, Y: y} }

func span(lo, hi int) api.Span { return api.Span{Lo: lo, Hi: hi} }

func box(xlo, xhi, ylo, yhi int) api.Box { return api.Box{X: span(xlo, xhi), Y: span(ylo, yhi)} }

func east(id, a, b, lo, hi int) api.Fact {
	return api.Fact{ID: id, Kind: api.FaEast, A: a, B: b, Span: span(lo, hi)}
}

func north(id, a, b, lo, hi int) api.Fact {
	return api.Fact{ID: id, Kind: api.FaNorth, A: a, B: b, Span: span(lo, hi)}
}

func dist(id, a, b, lo, hi int) api.Fact {
	return api.Fact{ID: id, Kind: api.FaDist, A: a, B: b, Span: span(lo, hi)}
}

func near(id, a, b, by int) api.Fact {
	return api.Fact{ID: id, Kind: api.FaNear, A: a, B: b, Span: span(0, by)}
}

func quarter(id, a, b, q int) api.Fact {
	return api.Fact{ID: id, Kind: api.FaQuarter, A: a, B: b, Quarter: q}
}

func not(f api.Fact) api.Fact {
	f.Not = !f.Not
	return f
}

// always returns a fact of two points that says nothing, but connects them.
func always(id, a, b int) api.Fact { return near(id, a, b, square) }

func witness(id, right, wrong int) api.Witness {
	return api.Witness{ID: id, Right: right, Wrong: wrong}
}

func account(id, witness int) api.Account { return api.Account{ID: id, Witness: witness} }

// line returns the boxes of the points 0, which is known, and 1, which lies somewhere on a line to the east of it.
func line() []api.Box { return []api.Box{box(0, 0, 0, 0), box(0, 9, 0, 0)} }

// bench returns a bench in which each account has a witness of its own, with the same ID and without a record; the accounts are those of the facts.
func bench(boxes []api.Box, facts ...api.Fact) api.Bench {
	b := api.Bench{Problem: api.Problem{Boxes: boxes, Facts: facts}}
	for _, f := range facts {
		if f.ID != 0 && !slices.Contains(b.Accounts, account(f.ID, f.ID)) {
			b.Witnesses = append(b.Witnesses, witness(f.ID, 0, 0))
			b.Accounts = append(b.Accounts, account(f.ID, f.ID))
		}
	}
	return b
}

// example returns the bench of the chapter's examples.
func example() api.Bench {
	return api.Bench{
		Witnesses: []api.Witness{witness(1, 8, 0), witness(2, 0, 0), witness(3, 0, 2)},
		Accounts:  []api.Account{account(11, 1), account(12, 2), account(13, 3)},
		Problem:   api.Problem{Boxes: line(), Facts: []api.Fact{east(11, 0, 1, 3, 5), east(12, 0, 1, 5, 7), east(13, 0, 1, 7, 9)}},
	}
}

// tied returns the example with the account 13 of the witness 1.
func tied() api.Bench {
	b := example()
	b.Accounts[2].Witness = 1
	return b
}

// clashing returns a bench whose facts with the ID 0 contradict each other.
func clashing() api.Bench {
	b := example()
	b.Problem.Facts = append(b.Problem.Facts, east(0, 0, 1, 0, 3), east(0, 0, 1, 4, 9))
	return b
}

// huge returns the boxes of two points; if a fact connects them, their part has twice the volume that is allowed.
func huge() []api.Box { return []api.Box{box(0, 0, 0, 0), box(0, 1023, 0, 127)} }

// intractable returns benches that are not tractable: because of the facts with the ID 0 alone, of one account alone, of two accounts together, of all facts together, and of two accounts behind one that cannot be true.
func intractable() []api.Bench {
	three := []api.Box{box(0, 0, 0, 0), box(0, 255, 0, 255), box(0, 1, 0, 0)}
	return []api.Bench{
		bench(huge(), always(0, 0, 1), east(4, 0, 1, 5, 5)),
		bench(huge(), always(3, 0, 1), east(4, 0, 1, 5, 5)),
		bench(three, always(3, 0, 1), always(5, 0, 2), east(9, 0, 1, 0, 0)),
		bench(three, always(7, 0, 1), always(0, 0, 2)),
		bench(three, always(7, 0, 1), always(6, 0, 2)),
		bench(three, always(3, 0, 1), always(5, 0, 2), east(1, 0, 1, 2000, 3000)),
	}
}

func copied(b api.Bench) api.Bench {
	return api.Bench{
		Witnesses: slices.Clone(b.Witnesses),
		Accounts:  slices.Clone(b.Accounts),
		Problem:   api.Problem{Boxes: slices.Clone(b.Problem.Boxes), Facts: slices.Clone(b.Problem.Facts)},
	}
}

func sameBench(a, b api.Bench) bool {
	return slices.Equal(a.Witnesses, b.Witnesses) && slices.Equal(a.Accounts, b.Accounts) &&
		slices.Equal(a.Problem.Boxes, b.Problem.Boxes) && slices.Equal(a.Problem.Facts, b.Problem.Facts)
}

func sameSets(a, b [][]int) bool { return slices.EqualFunc(a, b, slices.Equal) }

// isNothing reports whether a result is a zero value, or a list of nothing.
func isNothing(x any) bool {
	v := reflect.ValueOf(x)
	return !v.IsValid() || v.IsZero() || v.Kind() == reflect.Slice && v.Len() == 0
}

// wantError checks the error of a call, whose results come first, and that there is nothing beside an error.
func wantError(t *testing.T, what string, want api.Errno, results ...any) {
	t.Helper()
	last := len(results) - 1
	if results[last] != want {
		t.Errorf("%s: the error is %v, not %d", what, results[last], want)
	}
	for _, x := range results[:last] {
		if want != api.OK && !isNothing(x) {
			t.Errorf("R4: %s: together with the error %v there is %v", what, results[last], x)
		}
	}
}

// all returns the results of a call as a list.
func all(results ...any) []any { return results }

// withIDs returns the results of the functions that are given IDs.
func withIDs(b api.Bench, ids []int) map[string][]any {
	return map[string][]any{
		"P7.2: Weight":        all(credit.Weight(b, ids)),
		"P7.2: Agree":         all(credit.Agree(b, ids)),
		"P7.3: Without":       all(credit.Without(b, ids)),
		"P7.3: Learn":         all(credit.Learn(b, ids)),
		"P7.7: Prove":         all(credit.Prove(b, ids)),
		"P7.7: CheckConflict": all(credit.CheckConflict(b, api.Conflict{IDs: ids})),
	}
}

// settled returns the results of the functions that ask whether the bench is tractable, and then for least withdrawals.
func settled(b api.Bench) map[string][]any {
	return map[string][]any{
		"P7.4: Withdrawals": all(credit.Withdrawals(b)),
		"P7.5: Price":       all(credit.Price(b)),
		"P7.5: Least":       all(credit.Least(b)),
		"P7.5: Blamed":      all(credit.Blamed(b)),
		"P7.6: Judge":       all(credit.Judge(b, api.Fact{})),
		"P7.8: Account":     all(credit.Account(b)),
	}
}

// choices returns all choices of points from boxes.
func choices(boxes []api.Box) [][]api.Point {
	l := [][]api.Point{nil}
	for _, b := range boxes {
		var longer [][]api.Point
		for _, begin := range l {
			for x := b.X.Lo; x <= b.X.Hi; x++ {
				for y := b.Y.Lo; y <= b.Y.Hi; y++ {
					longer = append(longer, append(slices.Clone(begin), at(x, y)))
				}
			}
		}
		l = longer
	}
	return l
}

// slow is a bench as the chapter's definitions read it, by all choices of points.
type slow struct {
	bench api.Bench
	ids   []int
	// for each choice for which the facts with the ID 0 hold, the points, and the accounts all of whose facts hold
	points [][]api.Point
	truth  [][]int
}

func slowly(b api.Bench) slow {
	s := slow{bench: b}
	for _, a := range b.Accounts {
		s.ids = append(s.ids, a.ID)
	}
	slices.Sort(s.ids)
	for _, l := range choices(b.Problem.Boxes) {
		wrong := map[int]bool{}
		for _, f := range b.Problem.Facts {
			if !search.Holds(f, l) {
				wrong[f.ID] = true
			}
		}
		if wrong[0] {
			continue
		}
		var truth []int
		for _, id := range s.ids {
			if !wrong[id] {
				truth = append(truth, id)
			}
		}
		s.points, s.truth = append(s.points, l), append(s.truth, truth)
	}
	return s
}

func has(whole, part []int) bool {
	for _, n := range part {
		if !slices.Contains(whole, n) {
			return false
		}
	}
	return true
}

// solutions returns the solutions of some accounts.
func (s slow) solutions(ids []int) [][]api.Point {
	var l [][]api.Point
	for i, truth := range s.truth {
		if has(truth, ids) {
			l = append(l, s.points[i])
		}
	}
	return l
}

func (s slow) agree(ids []int) bool {
	return slices.ContainsFunc(s.truth, func(truth []int) bool { return has(truth, ids) })
}

// rest returns all accounts but some.
func (s slow) rest(ids []int) []int { return except(s.ids, ids...) }

// except returns a set without some elements.
func except(set []int, elements ...int) []int {
	var l []int
	for _, n := range set {
		if !slices.Contains(elements, n) {
			l = append(l, n)
		}
	}
	return l
}

// subsets returns all parts of a set, by their numbers in binary.
func subsets(set []int) [][]int {
	var l [][]int
	for bits := range 1 << len(set) {
		var part []int
		for i, n := range set {
			if bits>>i&1 == 1 {
				part = append(part, n)
			}
		}
		l = append(l, part)
	}
	return l
}

// inOrder sorts sets by their lengths, then by their first elements, and so on.
func inOrder(l [][]int) [][]int {
	slices.SortFunc(l, func(a, b []int) int {
		if len(a) != len(b) {
			return len(a) - len(b)
		}
		for i := range a {
			if a[i] != b[i] {
				return a[i] - b[i]
			}
		}
		return 0
	})
	return l
}

// minimalOf returns the parts of a set of which something is so, and is not without any one of their elements, ordered.
func minimalOf(set []int, so func(part []int) bool) [][]int {
	var l [][]int
	for _, part := range subsets(set) {
		if so(part) && !slices.ContainsFunc(part, func(n int) bool { return so(except(part, n)) }) {
			l = append(l, part)
		}
	}
	return inOrder(l)
}

func (s slow) contradictions() [][]int {
	return minimalOf(s.ids, func(ids []int) bool { return !s.agree(ids) })
}

func (s slow) withdrawals() [][]int {
	return minimalOf(s.ids, func(ids []int) bool { return s.agree(s.rest(ids)) })
}

// weight returns the sum of the credits of some accounts, in a roundabout way.
func (s slow) weight(ids []int) int {
	sum := 0
	for _, a := range s.bench.Accounts {
		for _, w := range s.bench.Witnesses {
			if slices.Contains(ids, a.ID) && a.Witness == w.ID {
				sum += slowWorth(w)
			}
		}
	}
	return sum
}

// slowWorth returns the greatest number that is not greater than the share of what a witness said right.
func slowWorth(w api.Witness) int {
	n := 0
	for step := 1 << 20; step > 0; step /= 2 {
		if (n+step)*(w.Right+w.Wrong+2) <= 1000000*(w.Right+1) {
			n += step
		}
	}
	return n
}

// least returns the price, and all withdrawals that have it, whether they are minimal or not, ordered; false if there are none.
func (s slow) least() (int, [][]int, bool) {
	price, l := -1, [][]int(nil)
	for _, ids := range subsets(s.ids) {
		if !s.agree(s.rest(ids)) {
			continue
		}
		n := s.weight(ids)
		if price == -1 || n < price {
			price, l = n, nil
		}
		if n == price {
			l = append(l, ids)
		}
	}
	return price, inOrder(l), price != -1
}

// answer says whether a fact holds in all, in none, or in some solutions of some accounts that agree.
func (s slow) answer(ids []int, f api.Fact) api.Answer {
	l := s.solutions(ids)
	n := 0
	for _, points := range l {
		if search.Holds(f, points) {
			n++
		}
	}
	switch n {
	case len(l):
		return api.Yes
	case 0:
		return api.No
	}
	return api.Open
}

// problem returns the problem of some accounts.
func (s slow) problem(ids []int) api.Problem {
	p := api.Problem{Boxes: s.bench.Problem.Boxes}
	for _, f := range s.bench.Problem.Facts {
		if f.ID == 0 || slices.Contains(ids, f.ID) {
			p.Facts = append(p.Facts, f)
		}
	}
	return p
}

// isSolution reports whether points are a solution of some accounts.
func (s slow) isSolution(ids []int, points []api.Point) bool {
	return slices.ContainsFunc(s.solutions(ids), func(l []api.Point) bool { return slices.Equal(l, points) })
}

// fits reports whether a tree fits a problem, by the words of the third chapter.
func fits(p api.Problem, tree []api.Node) bool {
	rest, is := readTree(p.Facts, p.Boxes, tree)
	return is && len(rest) == 0
}

// readTree reads one tree, and returns what stands behind it.
func readTree(facts []api.Fact, boxes []api.Box, tree []api.Node) ([]api.Node, bool) {
	if len(tree) == 0 {
		return nil, false
	}
	n, rest := tree[0], tree[1:]
	if n.Fact != -1 {
		return rest, n.Fact >= 0 && n.Fact < len(facts) && n == api.Node{Fact: n.Fact} && search.Fails(facts[n.Fact], boxes)
	}
	if n.Point < 0 || n.Point >= len(boxes) || n.Axis != 0 && n.Axis != 1 {
		return nil, false
	}
	low, high := slices.Clone(boxes), slices.Clone(boxes)
	s, u := &low[n.Point].X, &high[n.Point].X
	if n.Axis == 1 {
		s, u = &low[n.Point].Y, &high[n.Point].Y
	}
	if n.At < s.Lo || n.At >= s.Hi {
		return nil, false
	}
	s.Hi, u.Lo = n.At, n.At+1
	rest, is := readTree(facts, low, rest)
	if !is {
		return nil, false
	}
	return readTree(facts, high, rest)
}

// isConflict reports whether a conflict is one, by the words of the chapter.
func (s slow) isConflict(c api.Conflict) bool {
	if !has(s.ids, c.IDs) || !slices.IsSorted(c.IDs) || len(slices.Compact(slices.Clone(c.IDs))) != len(c.IDs) {
		return false
	}
	if len(c.Tree) > nodes || !fits(s.problem(c.IDs), c.Tree) || len(c.Ends) != len(c.IDs) {
		return false
	}
	for i, id := range c.IDs {
		if !s.isSolution(except(c.IDs, id), c.Ends[i]) {
			return false
		}
	}
	return true
}

// isProved reports whether a judgement is proved, by the words of the chapter.
func (s slow) isProved(j api.Judgement) bool {
	var family [][]int
	for _, c := range j.Conflicts {
		if !s.isConflict(c) {
			return false
		}
		family = append(family, c.IDs)
	}
	price, least := -1, [][]int(nil)
	for _, set := range slowHitting(family, s.ids) {
		n := s.weight(set)
		if price == -1 || n < price {
			price, least = n, nil
		}
		if n == price {
			least = append(least, set)
		}
	}
	if price == -1 || j.Price != price || !sameSets(j.Least, least) || len(j.Points) != len(least) {
		return false
	}
	for i, set := range least {
		if !s.isSolution(s.rest(set), j.Points[i]) {
			return false
		}
	}
	return true
}

// slowHits reports whether each set of a family has an element of a list.
func slowHits(list []int, family [][]int) bool {
	for _, set := range family {
		n := 0
		for _, a := range set {
			for _, b := range list {
				if a == b {
					n++
				}
			}
		}
		if n == 0 {
			return false
		}
	}
	return true
}

// slowHitting returns all minimal hitting sets of a family whose elements are among some.
func slowHitting(family [][]int, elements []int) [][]int {
	return minimalOf(elements, func(set []int) bool { return slowHits(set, family) })
}

func newRand(a, b uint64) *rand.Rand { return rand.New(rand.NewPCG(a, b)) }

func randomSpan(r *rand.Rand, lo, hi, most int) api.Span {
	n := lo + r.IntN(hi-lo+1)
	return span(n, min(hi, n+r.IntN(most)))
}

// randomFact returns a fact about at least two points.
func randomFact(r *rand.Rand, id, n int) api.Fact {
	names := r.Perm(n)
	f := api.Fact{ID: id, Kind: 1 + r.IntN(6), A: names[0], B: names[1], Not: r.IntN(3) == 0}
	if f.Kind == api.FaTurn && n < 3 {
		f.Kind = api.FaEast
	}
	switch f.Kind {
	case api.FaDist:
		f.Span = randomSpan(r, 0, 30, 12)
	case api.FaTurn:
		f.C, f.Span = names[2], randomSpan(r, -20, 20, 20)
	case api.FaQuarter:
		f.Quarter = r.IntN(4)
	case api.FaNear:
		f.Span.Hi = r.IntN(4)
	default:
		f.Span = randomSpan(r, -5, 5, 6)
	}
	return f
}

// factOf returns a random fact of an account that holds for some choices of points if one is found quickly.
func factOf(r *rand.Rand, id int, worlds [][]api.Point) api.Fact {
	f := randomFact(r, id, len(worlds[0]))
	for range r.IntN(30) {
		if !slices.ContainsFunc(worlds, func(l []api.Point) bool { return !search.Holds(f, l) }) {
			break
		}
		f = randomFact(r, id, len(worlds[0]))
	}
	return f
}

// randomCover returns facts each of which only forbids some places of the point 1 of a line, so that it takes several ones to contradict each other.
func randomCover(r *rand.Rand, id int) []api.Fact {
	var l []api.Fact
	for range 1 + r.IntN(3) {
		l = append(l, not(api.Fact{ID: id, Kind: api.FaEast, B: 1, Span: randomSpan(r, 0, 9, 4)}))
	}
	return l
}

// randomBench returns a bench with at most 6 accounts, whose choices can all be tried. Most accounts are true for one of three choices of points; many witnesses have the same credit.
func randomBench(r *rand.Rand) api.Bench {
	var b api.Bench
	covers := r.IntN(3) == 0
	n := 2 + r.IntN(2)
	for range n {
		s, u := randomSpan(r, -3, 3, 8/n), randomSpan(r, -3, 3, 8/n)
		b.Problem.Boxes = append(b.Problem.Boxes, api.Box{X: s, Y: u})
	}
	if covers {
		b.Problem.Boxes = line()
	}
	all := choices(b.Problem.Boxes)
	worlds := [][]api.Point{all[r.IntN(len(all))], all[r.IntN(len(all))], all[r.IntN(len(all))]}
	for _, id := range r.Perm(50)[:1+r.IntN(4)] {
		b.Witnesses = append(b.Witnesses, witness(id+1, r.IntN(2), r.IntN(2)))
	}
	for range r.IntN(3) {
		b.Problem.Facts = append(b.Problem.Facts, factOf(r, 0, worlds))
	}
	for i, id := range r.Perm(50)[:max(r.IntN(7), r.IntN(7))] {
		if id%7 == 0 {
			id = greatID - 1 - id
		}
		b.Accounts = append(b.Accounts, account(id+1, b.Witnesses[r.IntN(len(b.Witnesses))].ID))
		if covers {
			b.Problem.Facts = append(b.Problem.Facts, randomCover(r, id+1)...)
			continue
		}
		for range (2 + r.IntN(7)) / 3 {
			b.Problem.Facts = append(b.Problem.Facts, factOf(r, id+1, worlds[i%3:i%3+1]))
		}
	}
	r.Shuffle(len(b.Problem.Facts), func(i, j int) {
		l := b.Problem.Facts
		l[i], l[j] = l[j], l[i]
	})
	return b
}

// disputed returns a random bench in which accounts contradict each other, but not the facts with the ID 0.
func disputed(r *rand.Rand) (api.Bench, slow) {
	for {
		b := randomBench(r)
		if s := slowly(b); s.agree(nil) && !s.agree(s.ids) {
			return b, s
		}
	}
}
