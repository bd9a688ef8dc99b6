package credit_test

import (
	"slices"
	"testing"

	"boundstone/api"
	"boundstone/credit"
)

// pinned returns a bench of the points 0 and 1 in which each account says where the point 1 lies, another one says something else.
func pinned(n int) api.Bench {
	var facts []api.Fact
	for i := range n {
		facts = append(facts, east(i+1, 0, 1, i, i))
	}
	return bench(line(), facts...)
}

// inTurns returns the sets of so many of the numbers 1 to n, each of which differs from the one before it in one element.
func inTurns(n, size int) [][]int {
	if size == 0 {
		return [][]int{nil}
	}
	if n < size {
		return nil
	}
	l := inTurns(n-1, size)
	with := inTurns(n-1, size-1)
	for _, set := range slices.Backward(with) {
		l = append(l, append(slices.Clone(set), n))
	}
	return l
}

// covering returns a bench of 8 accounts, of which any 4 contradict each other and any 3 agree: each 3 of them allow one number, which no other one does.
func covering() api.Bench {
	sets := inTurns(8, 3)
	b := bench([]api.Box{box(0, 0, 0, 0), box(0, len(sets)-1, 0, 0)})
	for id := 1; id <= 8; id++ {
		b.Witnesses = append(b.Witnesses, witness(id, 0, id))
		b.Accounts = append(b.Accounts, account(id, id))
		lo := 0 // of the numbers behind the last set with this account
		for i, set := range append(sets, []int{id}) {
			if slices.Contains(set, id) {
				if lo < i {
					b.Problem.Facts = append(b.Problem.Facts, not(east(id, 0, 1, lo, i-1)))
				}
				lo = i + 1
			}
		}
	}
	return b
}

func TestContradictions(t *testing.T) {
	for _, x := range []struct {
		b           api.Bench
		want, other [][]int // contradictions and withdrawals
	}{
		{example(), [][]int{{11, 13}}, [][]int{{11}, {13}}},
		{tied(), [][]int{{11, 13}}, [][]int{{11}, {13}}},
		{api.Bench{}, nil, [][]int{nil}},
		{many(3, 8), nil, [][]int{nil}},
		{pinned(1), nil, [][]int{nil}},
		{pinned(3), [][]int{{1, 2}, {1, 3}, {2, 3}}, [][]int{{1, 2}, {1, 3}, {2, 3}}},
		{bench(line(), east(5, 0, 1, 20, 30)), [][]int{{5}}, [][]int{{5}}},
		{bench(line(), east(5, 0, 1, 20, 30), east(9, 0, 1, 1, 1), east(2, 0, 1, 2, 2)), [][]int{{5}, {2, 9}}, [][]int{{2, 5}, {5, 9}}},
		{bench(line(), east(0, 0, 1, 5, 9), east(7, 0, 1, 0, 4)), [][]int{{7}}, [][]int{{7}}},
		{bench(line(), not(east(1, 0, 1, 0, 3)), not(east(2, 0, 1, 4, 6)), not(east(3, 0, 1, 7, 9))), [][]int{{1, 2, 3}}, [][]int{{1}, {2}, {3}}},
		{bench(line(), dist(4, 0, 1, 3, 3)), [][]int{{4}}, [][]int{{4}}}, // no narrowing finds it
	} {
		got, e := credit.Contradictions(x.b)
		if e != api.OK || !sameSets(got, x.want) {
			t.Errorf("P7.4: Contradictions of %v is %v, %d, not %v", x.b, got, e, x.want)
		}
		got, e = credit.Withdrawals(x.b)
		if e != api.OK || !sameSets(got, x.other) {
			t.Errorf("P7.4: Withdrawals of %v is %v, %d, not %v", x.b, got, e, x.other)
		}
	}
}

func TestNoWithdrawal(t *testing.T) {
	for _, b := range []api.Bench{clashing(), bench(line(), dist(0, 0, 1, 3, 3)), bench(line(), dist(0, 0, 1, 3, 3), east(4, 0, 1, 1, 1))} {
		got, e := credit.Contradictions(b)
		if e != api.OK || len(got) != 1 || len(got[0]) != 0 {
			t.Errorf("P7.4: Contradictions of facts of no account is %v, %d", got, e)
		}
		for what, results := range settled(b) {
			wantError(t, what+" of facts of no account that contradict each other", api.ErrClash, results...)
		}
	}
}

func TestBenchesThatAreNotTractable(t *testing.T) {
	for i, b := range intractable() {
		wantError(t, "P7.4: Contradictions", api.ErrLimit, all(credit.Contradictions(b))...)
		for what, results := range settled(b) {
			wantError(t, what, api.ErrLimit, results...)
		}
		if e := credit.Check(b); e != api.OK {
			t.Errorf("P7.1: Check of the bench %d is %d", i, e)
		}
	}
	// The facts of no account contradict each other, but only a search finds that: this is not tractable with the account 3.
	three := []api.Box{box(0, 0, 0, 0), box(1, 1, 0, 0), box(0, 1023, 0, 127)}
	b := bench(three, dist(0, 0, 1, 0, 0), always(3, 0, 2))
	if got, e := credit.Contradictions(b); e != api.OK || len(got) != 1 {
		t.Errorf("P7.4: Contradictions of an empty problem is %v, %d", got, e)
	}
	three[0] = box(0, 2, 0, 0)
	b.Problem.Facts[0] = dist(0, 0, 1, 2, 3)
	if got, e := credit.Contradictions(b); e != api.OK || len(got) != 1 {
		t.Errorf("P7.4: Contradictions of an empty problem is %v, %d", got, e)
	}
	three[0], three[1] = box(-5, 5, -5, 5), box(0, 0, 0, 0)
	b.Problem.Facts[0] = dist(0, 0, 1, 27, 27)
	for what, results := range settled(b) {
		wantError(t, what, api.ErrLimit, results...)
	}
}

func TestTractableAtTheLimit(t *testing.T) {
	b := bench([]api.Box{box(0, 0, 0, 0), box(0, 1023, 0, 63)}, always(3, 0, 1), east(4, 0, 1, 7, 1023), east(9, 0, 1, 0, 6))
	if got, e := credit.Contradictions(b); e != api.OK || !sameSets(got, [][]int{{4, 9}}) {
		t.Errorf("P7.4: Contradictions of a bench with the greatest volume is %v, %d", got, e)
	}
	b.Problem.Boxes[0] = box(0, 1, 0, 0)
	wantError(t, "P7.4: Contradictions", api.ErrLimit, all(credit.Contradictions(b))...)
	// The volume does not matter where narrowing leaves nothing.
	b = bench(huge(), east(3, 0, 1, 2000, 3000), north(4, 0, 1, 0, 0), not(east(5, 0, 1, 0, 0)))
	b.Problem.Facts = append(b.Problem.Facts, north(5, 0, 1, 7, 7))
	if got, e := credit.Contradictions(b); e != api.OK || !sameSets(got, [][]int{{3}, {4, 5}}) {
		t.Errorf("P7.4: Contradictions of a bench with an account that cannot be true is %v, %d", got, e)
	}
}

func TestManyContradictions(t *testing.T) {
	b := covering()
	got, e := credit.Contradictions(b)
	if e != api.OK || len(got) != 70 || !slices.Equal(got[0], []int{1, 2, 3, 4}) || !slices.Equal(got[69], []int{5, 6, 7, 8}) {
		t.Errorf("P7.4: there are %d contradictions, %d", len(got), e)
	}
	got, e = credit.Withdrawals(b)
	if e != api.OK || len(got) != 56 || !slices.Equal(got[0], []int{1, 2, 3, 4, 5}) || !slices.Equal(got[55], []int{4, 5, 6, 7, 8}) {
		t.Errorf("P7.4: there are %d withdrawals, %d", len(got), e)
	}
	if got, e = credit.Least(b); e != api.OK || !sameSets(got, [][]int{{4, 5, 6, 7, 8}}) {
		t.Errorf("P7.5: Least is %v, %d", got, e)
	}
}

func TestRandomBenches(t *testing.T) {
	r := newRand(7, 5)
	clashes, sizes, several := 0, [7]int{}, 0
	for range 1500 {
		b := randomBench(r)
		s := slowly(b)
		want := s.contradictions()
		got, e := credit.Contradictions(b)
		if e != api.OK || !sameSets(got, want) {
			t.Fatalf("P7.4: Contradictions of %v is %v, %d, not %v", b, got, e, want)
		}
		for _, ids := range got {
			sizes[len(ids)]++
		}
		if !s.agree(nil) {
			clashes++
			for what, results := range settled(b) {
				wantError(t, what, api.ErrClash, results...)
			}
			continue
		}
		want = s.withdrawals()
		if got, e := credit.Withdrawals(b); e != api.OK || !sameSets(got, want) {
			t.Fatalf("P7.4: Withdrawals of %v is %v, %d, not %v", b, got, e, want)
		}
		if checkLeast(t, s) > 1 {
			several++
		}
	}
	if clashes < 50 || sizes[1] < 100 || sizes[2] < 100 || sizes[3] < 20 || several < 50 {
		t.Errorf("P7.4: these benches test little: %d clash, %v contradictions by their sizes, %d with several least withdrawals", clashes, sizes, several)
	}
}

// checkLeast compares what is told of least withdrawals with the definitions, and returns how many there are.
func checkLeast(t *testing.T, s slow) int {
	t.Helper()
	b := s.bench
	price, least, _ := s.least()
	if n, e := credit.Price(b); e != api.OK || n != price {
		t.Fatalf("P7.5: Price of %v is %d, %d, not %d", b, n, e, price)
	}
	if l, e := credit.Least(b); e != api.OK || !sameSets(l, least) {
		t.Fatalf("P7.5: Least of %v is %v, %d, not %v", b, l, e, least)
	}
	var every, some []int
	for _, id := range s.ids {
		n := 0
		for _, set := range least {
			if slices.Contains(set, id) {
				n++
			}
		}
		if n == len(least) {
			every = append(every, id)
		}
		if n > 0 {
			some = append(some, id)
		}
	}
	gotAll, gotSome, e := credit.Blamed(b)
	if e != api.OK || !slices.Equal(gotAll, every) || !slices.Equal(gotSome, some) {
		t.Fatalf("P7.5: Blamed of %v is %v, %v, %d, not %v, %v", b, gotAll, gotSome, e, every, some)
	}
	return len(least)
}

func TestLeast(t *testing.T) {
	weighed := func(records ...int) api.Bench { // pinned accounts with records
		b := pinned(len(records) / 2)
		for i := range b.Witnesses {
			b.Witnesses[i].Right, b.Witnesses[i].Wrong = records[2*i], records[2*i+1]
		}
		return b
	}
	for _, x := range []struct {
		b         api.Bench
		price     int
		least     [][]int
		all, some []int
	}{
		{example(), 250000, [][]int{{13}}, []int{13}, []int{13}},
		{tied(), 900000, [][]int{{11}, {13}}, nil, []int{11, 13}},
		{many(1, 3), 0, [][]int{nil}, nil, nil},
		{api.Bench{}, 0, [][]int{nil}, nil, nil},
		{pinned(3), 1000000, [][]int{{1, 2}, {1, 3}, {2, 3}}, nil, []int{1, 2, 3}},
		{weighed(0, 0, 3, 0, 0, 0), 1000000, [][]int{{1, 3}}, []int{1, 3}, []int{1, 3}},
		{weighed(0, 0, 0, 2, 0, 0), 750000, [][]int{{1, 2}, {2, 3}}, []int{2}, []int{1, 2, 3}},
	} {
		price, e := credit.Price(x.b)
		least, f := credit.Least(x.b)
		every, some, g := credit.Blamed(x.b)
		if e != api.OK || f != api.OK || g != api.OK {
			t.Errorf("P7.5: the errors of %v are %d, %d, %d", x.b, e, f, g)
		}
		if price != x.price || !sameSets(least, x.least) || !slices.Equal(every, x.all) || !slices.Equal(some, x.some) {
			t.Errorf("P7.5: of %v Price is %d, Least %v, Blamed %v and %v", x.b, price, least, every, some)
		}
	}
	// Two accounts of little credit weigh less than one of much.
	b := bench(line(), east(1, 0, 1, 3, 3), east(2, 0, 1, 4, 5), east(3, 0, 1, 5, 6))
	b.Witnesses[0].Right, b.Witnesses[1].Wrong, b.Witnesses[2].Wrong = 9, 2, 2
	if l, e := credit.Least(b); e != api.OK || !sameSets(l, [][]int{{2, 3}}) {
		t.Errorf("P7.5: Least of %v is %v, %d", b, l, e)
	}
	b.Witnesses[0].Right = 0 // 500000 against twice 250000
	if l, e := credit.Least(b); e != api.OK || !sameSets(l, [][]int{{1}, {2, 3}}) {
		t.Errorf("P7.5: Least of %v is %v, %d", b, l, e)
	}
}

// shareNothing checks that lists can be written to, and longer ones made of them, without a change of the others.
func shareNothing(t *testing.T, lists ...[]int) {
	t.Helper()
	for i, l := range lists {
		for k := range l {
			l[k] = 100 + i
		}
	}
	for i, l := range lists {
		_ = append(l, 200+i)
	}
	for i, l := range lists {
		for _, n := range l {
			if n != 100+i {
				t.Fatalf("R6: lists share memory: %v", lists)
			}
		}
	}
}

func TestSetsShareNoMemory(t *testing.T) {
	for _, b := range []api.Bench{pinned(4), tied(), covering()} {
		contradictions, _ := credit.Contradictions(b)
		withdrawals, _ := credit.Withdrawals(b)
		least, _ := credit.Least(b)
		every, some, _ := credit.Blamed(b)
		shareNothing(t, contradictions...)
		shareNothing(t, withdrawals...)
		shareNothing(t, least...)
		shareNothing(t, every, some)
	}
}

func TestJudge(t *testing.T) {
	five, far := east(0, 0, 1, 5, 5), east(0, 0, 1, 7, square)
	for _, x := range []struct {
		b    api.Bench
		f    api.Fact
		want api.Verdict
	}{
		{example(), five, api.Verdict{Every: api.Yes, For: true}},
		{example(), far, api.Verdict{Every: api.No, Against: true}},
		{tied(), five, api.Verdict{Every: api.Open, For: true, Against: true}},
		{tied(), far, api.Verdict{Every: api.Open, For: true, Against: true}},
		{tied(), east(7, 0, 1, 5, 7), api.Verdict{Every: api.Yes, For: true}},
		{tied(), not(east(greatID, 0, 1, 5, 7)), api.Verdict{Every: api.No, Against: true}},
		{many(1, 3), five, api.Verdict{Every: api.Open}},
		{pinned(1), east(1, 0, 1, 0, 0), api.Verdict{Every: api.Yes, For: true}},
		{bench(line(), east(1, 0, 1, 0, 4), east(2, 0, 1, 5, 5)), five, api.Verdict{Every: api.Open, For: true, Against: true}},
		{bench(line(), east(1, 0, 1, 0, 5), east(2, 0, 1, 7, 7)), five, api.Verdict{Every: api.Open, Against: true}},
		{bench(line(), east(1, 0, 1, 5, 5), east(2, 0, 1, 6, 9)), east(0, 0, 1, 5, 8), api.Verdict{Every: api.Open, For: true}},
		{bench(line(), east(1, 0, 1, 6, 9), east(2, 0, 1, 4, 5)), east(0, 0, 1, 5, 8), api.Verdict{Every: api.Open}},
	} {
		if v, e := credit.Judge(x.b, x.f); e != api.OK || v != x.want {
			t.Errorf("P7.6: Judge of %v in %v is %v, %d, not %v", x.f, x.b, v, e, x.want)
		}
	}
}

func TestJudgeOfRandomBenches(t *testing.T) {
	r := newRand(7, 6)
	told := map[api.Verdict]int{}
	for range 800 {
		b := randomBench(r)
		s := slowly(b)
		_, least, is := s.least()
		for range 6 {
			f := randomFact(r, r.IntN(3), len(b.Problem.Boxes))
			v, e := credit.Judge(b, f)
			if !is {
				wantError(t, "P7.6: Judge", api.ErrClash, v, e)
				continue
			}
			if want := s.verdict(least, f); e != api.OK || v != want {
				t.Fatalf("P7.6: Judge of %v in %v is %v, %d, not %v", f, b, v, e, want)
			}
			told[v]++
		}
	}
	if len(told) != 6 || told[api.Verdict{Every: api.Open, For: true, Against: true}] < 10 {
		t.Errorf("P7.6: these benches test little: %v", told)
	}
}

// verdict returns what all least withdrawals say of a fact.
func (s slow) verdict(least [][]int, f api.Fact) api.Verdict {
	n := map[api.Answer]int{}
	for _, set := range least {
		n[s.answer(s.rest(set), f)]++
	}
	v := api.Verdict{Every: api.Open, For: n[api.Yes] > 0, Against: n[api.No] > 0}
	if n[api.Yes] == len(least) {
		v.Every = api.Yes
	}
	if n[api.No] == len(least) {
		v.Every = api.No
	}
	return v
}

func TestErrorsOfJudge(t *testing.T) {
	wrong := []api.Fact{{}, east(-1, 0, 1, 0, 0), east(0, 0, 2, 0, 0), east(0, 1, 1, 0, 0), east(0, 0, 1, 1, 0), east(greatID+1, 0, 1, 0, 0)}
	for _, f := range wrong {
		wantError(t, "P7.6: Judge", api.ErrLimit, all(credit.Judge(intractable()[2], f))...)
		wantError(t, "P7.6: Judge", api.ErrClash, all(credit.Judge(clashing(), f))...)
		wantError(t, "P7.6: Judge", api.ErrArg, all(credit.Judge(example(), f))...)
		wantError(t, "P7.6: Judge", api.ErrArg, all(credit.Judge(tied(), f))...)
	}
	// There is no room for a further fact, unless an account is withdrawn.
	full := bench(line(), slices.Repeat([]api.Fact{east(4, 0, 1, 0, 5)}, 60)...)
	wantError(t, "P7.6: Judge", api.ErrLimit, all(credit.Judge(full, east(0, 0, 1, 5, 5)))...)
	wantError(t, "P7.6: Judge", api.ErrArg, all(credit.Judge(full, api.Fact{}))...)
	full = bench(line(), append(slices.Repeat([]api.Fact{east(4, 0, 1, 0, 5)}, 59), east(6, 0, 1, 6, 9))...)
	full.Witnesses[0].Right = 1
	if v, e := credit.Judge(full, east(0, 0, 1, 0, 8)); e != api.OK || v.Every != api.Yes {
		t.Errorf("P7.6: Judge of a bench with 60 facts, of which one is withdrawn, is %v, %d", v, e)
	}
}

func TestJudgeIsTractableForEachWithdrawal(t *testing.T) {
	// The fact connects the points 1 and 2, which is too much unless an account says where the point 1 is.
	boxes := []api.Box{box(0, 0, 0, 0), box(0, 255, 0, 255), box(0, 1, 0, 0)}
	f := always(0, 1, 2)
	for _, x := range []struct {
		facts []api.Fact
		want  api.Errno
	}{
		{[]api.Fact{east(1, 0, 1, 3, 3), east(2, 0, 1, 4, 4)}, api.OK},
		{[]api.Fact{east(1, 0, 1, 3, 3), not(east(2, 0, 1, 3, 3))}, api.ErrLimit}, // without the first account
		{[]api.Fact{not(east(1, 0, 1, 3, 3)), east(2, 0, 1, 3, 3)}, api.ErrLimit}, // without the second one
	} {
		v, e := credit.Judge(bench(boxes, x.facts...), f)
		wantError(t, "P7.6: Judge", x.want, v, e)
		if x.want == api.OK && v != (api.Verdict{Every: api.Yes, For: true}) {
			t.Errorf("P7.6: Judge is %v", v)
		}
	}
	// What a withdrawal leaves has to be tractable only if its price is the least.
	b := bench(boxes, east(1, 0, 1, 3, 3), not(east(2, 0, 1, 3, 3)))
	b.Witnesses[0].Right = 1
	if v, e := credit.Judge(b, f); e != api.OK || v.Every != api.Yes {
		t.Errorf("P7.6: Judge is %v, %d", v, e)
	}
}
