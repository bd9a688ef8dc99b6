package credit_test

import (
	"math/rand/v2"
	"slices"
	"testing"

	"boundstone/api"
	"boundstone/credit"
	"boundstone/search"
)

// renamed returns a bench whose accounts have their places among all accounts as IDs, beginning with 1.
func renamed(b api.Bench) api.Bench {
	ids := slowly(b).ids
	b = copied(b)
	for i, a := range b.Accounts {
		b.Accounts[i].ID = slices.Index(ids, a.ID) + 1
	}
	for i, f := range b.Problem.Facts {
		if f.ID != 0 {
			b.Problem.Facts[i].ID = slices.Index(ids, f.ID) + 1
		}
	}
	return b
}

func TestDuality(t *testing.T) {
	r := newRand(7, 10)
	for range 300 {
		b, _ := disputed(r)
		b = renamed(b)
		contradictions, e := credit.Contradictions(b)
		withdrawals, f := credit.Withdrawals(b)
		if e != api.OK || f != api.OK {
			t.Fatalf("P7.10: the errors of %v are %d, %d", b, e, f)
		}
		one, e := credit.Hitting(contradictions)
		two, f := credit.Hitting(withdrawals)
		if e != api.OK || f != api.OK || !sameSets(one, withdrawals) || !sameSets(two, contradictions) {
			t.Fatalf("P7.10: of %v the contradictions are %v and the withdrawals %v", b, contradictions, withdrawals)
		}
	}
}

// claimed returns a judgement with some conflicts of a right one, and what follows if these were all, with points where there are any.
func claimed(r *rand.Rand, s slow, j api.Judgement) api.Judgement {
	var c api.Judgement
	var family [][]int
	for range r.IntN(2 * len(j.Conflicts)) {
		c.Conflicts = append(c.Conflicts, j.Conflicts[r.IntN(len(j.Conflicts))])
		family = append(family, c.Conflicts[len(c.Conflicts)-1].IDs)
	}
	for _, set := range slowHitting(family, s.ids) {
		n := s.weight(set)
		if len(c.Least) == 0 || n < c.Price {
			c.Price, c.Least, c.Points = n, nil, nil
		}
		if n > c.Price {
			continue
		}
		points := s.points[r.IntN(len(s.points))]
		if l := s.solutions(s.rest(set)); len(l) > 0 {
			points = l[r.IntN(len(l))]
		}
		c.Least, c.Points = append(c.Least, set), append(c.Points, points)
	}
	return c
}

func TestAcceptedJudgementsAreRight(t *testing.T) {
	r := newRand(7, 11)
	accepted, with := map[bool]int{}, 0
	for range 1000 {
		b, s := disputed(r)
		right, _ := credit.Account(b)
		j := claimed(r, s, right)
		is := credit.CheckAccount(b, j) == api.OK
		if is != s.isProved(j) {
			t.Fatalf("P7.8: CheckAccount of %v in %v is %v", j, b, is)
		}
		accepted[is]++
		if is && (j.Price != right.Price || !sameSets(j.Least, right.Least)) {
			t.Fatalf("P7.11: CheckAccount accepts %v of %v", j, b)
		}
		if is && len(j.Conflicts) < len(right.Conflicts) {
			with++
		}
	}
	if min(accepted[true], accepted[false]) < 100 || with < 10 {
		t.Errorf("P7.11: these judgements test little: %v, %d with fewer conflicts", accepted, with)
	}
}

func TestWhatIsToldIsTrue(t *testing.T) {
	r := newRand(7, 12)
	told := map[api.Answer]int{}
	for range 600 {
		b := randomBench(r)
		s := slowly(b)
		if len(s.points) == 0 {
			continue
		}
		i := r.IntN(len(s.points))
		points, wrong := s.points[i], s.rest(s.truth[i])
		least, e := credit.Least(b)
		if e != api.OK || !slices.ContainsFunc(least, func(set []int) bool { return slices.Equal(set, wrong) }) {
			continue
		}
		for range 10 {
			f := randomFact(r, 0, len(b.Problem.Boxes))
			v, e := credit.Judge(b, f)
			is := search.Holds(f, points)
			if e != api.OK || v.Every == api.Yes && !is || v.Every == api.No && is {
				t.Fatalf("P7.12: Judge of %v in %v is %v, %d, but it is %v for %v", f, b, v, e, is, points)
			}
			told[v.Every]++
		}
	}
	if min(told[api.Yes], told[api.No], told[api.Open]) < 50 {
		t.Errorf("P7.12: these benches test little: %v", told)
	}
}

func TestOneMoreAccount(t *testing.T) {
	r := newRand(7, 13)
	more, same, fewer := 0, 0, 0
	for range 1500 {
		b := randomBench(r)
		if len(b.Accounts) == 0 {
			continue
		}
		last := b.Accounts[r.IntN(len(b.Accounts))].ID
		before, e := credit.Without(b, []int{last})
		if e != api.OK {
			t.Fatalf("P7.3: the error of Without is %d", e)
		}
		price, e := credit.Price(b)
		old, f := credit.Price(before)
		if e != f {
			t.Fatalf("P7.13: without %d the error of %v is %d, not %d", last, b, f, e)
		}
		if price < old {
			t.Fatalf("P7.13: with the account %d the price of %v is %d, not %d", last, b, price, old)
		}
		least, _ := credit.Least(b)
		was, _ := credit.Least(before)
		if price > old {
			more++
			continue
		}
		for _, set := range least {
			if !slices.ContainsFunc(was, func(other []int) bool { return slices.Equal(set, other) }) {
				t.Fatalf("P7.13: with the account %d a least withdrawal of %v is %v", last, b, set)
			}
		}
		if len(least) < len(was) {
			fewer++
		}
		same++
	}
	if min(more, same) < 100 || fewer < 10 {
		t.Errorf("P7.13: these benches test little: %d, %d, %d", more, same, fewer)
	}
}

func TestRecords(t *testing.T) {
	for right := range 60 {
		for wrong := range 60 {
			n, _ := credit.Worth(witness(1, right, wrong))
			better, _ := credit.Worth(witness(1, right+1, wrong))
			worse, _ := credit.Worth(witness(1, right, wrong+1))
			if better < n || worse > n || n <= 0 {
				t.Fatalf("P7.14: the credit of %d and %d is %d, with one more right %d, with one more wrong %d", right, wrong, n, better, worse)
			}
		}
	}
	r := newRand(7, 14)
	for range 300 {
		b, s := disputed(r)
		l, _ := credit.Contradictions(b)
		ids := slices.Concat(l...)
		slices.Sort(ids)
		price, e := credit.Price(b)
		if most := s.weight(slices.Compact(ids)); e != api.OK || price > most || price == 0 {
			t.Fatalf("P7.14: the price of %v is %d, %d; all accounts that contradict each other have %d", b, price, e, most)
		}
	}
}

// toldOf returns what is told of a bench, but for proofs.
func toldOf(b api.Bench, f api.Fact) []any {
	return slices.Concat(
		all(credit.Contradictions(b)), all(credit.Withdrawals(b)), all(credit.Price(b)),
		all(credit.Least(b)), all(credit.Blamed(b)), all(credit.Judge(b, f)),
	)
}

func same(a, b []any) bool {
	return slices.EqualFunc(a, b, func(x, y any) bool {
		if l, is := x.([][]int); is {
			return sameSets(l, y.([][]int))
		}
		if l, is := x.([]int); is {
			return slices.Equal(l, y.([]int))
		}
		return x == y
	})
}

func TestNames(t *testing.T) {
	r := newRand(7, 15)
	for range 300 {
		b := randomBench(r)
		f := randomFact(r, 0, len(b.Problem.Boxes))
		want := toldOf(b, f)
		mixed := copied(b)
		r.Shuffle(len(b.Accounts), func(i, j int) {
			mixed.Accounts[i], mixed.Accounts[j] = mixed.Accounts[j], mixed.Accounts[i]
		})
		slices.Reverse(mixed.Witnesses)
		if got := toldOf(mixed, f); !same(got, want) {
			t.Fatalf("P7.15: of %v it is told %v, not %v", mixed, got, want)
		}
		ids := slowly(b).ids
		got := toldOf(renamed(b), f)
		for _, x := range got {
			sets, _ := x.([][]int)
			if set, is := x.([]int); is {
				sets = [][]int{set}
			}
			for _, set := range sets {
				for i, id := range set {
					set[i] = ids[id-1]
				}
			}
		}
		if !same(got, want) {
			t.Fatalf("P7.15: with other IDs it is told of %v %v, not %v", b, got, want)
		}
	}
}
