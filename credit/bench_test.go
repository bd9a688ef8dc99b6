package credit_test

import (
	"math"
	"slices"
	"testing"

	"boundstone/api"
	"boundstone/credit"
	"boundstone/search"
)

// many returns a bench with so many witnesses and accounts.
func many(witnesses, accounts int) api.Bench {
	b := api.Bench{Problem: api.Problem{Boxes: line()}}
	for i := range witnesses {
		b.Witnesses = append(b.Witnesses, witness(i+1, 0, 0))
	}
	for i := range accounts {
		b.Accounts = append(b.Accounts, account(i+1, 1))
	}
	return b
}

// changed returns the example with a change.
func changed(change func(b *api.Bench)) api.Bench {
	b := example()
	change(&b)
	return b
}

type wrongBench struct {
	b    api.Bench
	want api.Errno
}

// wrongBenches returns benches that are not valid, with their errors.
func wrongBenches() []wrongBench {
	l := []wrongBench{
		{many(13, 0), api.ErrLimit},
		{many(1, 9), api.ErrLimit},
		{changed(func(b *api.Bench) { b.Problem.Boxes[1] = box(1, 0, 0, 0) }), api.ErrArg},
		{changed(func(b *api.Bench) { b.Problem.Boxes = slices.Repeat(b.Problem.Boxes, 7) }), api.ErrLimit},
		{changed(func(b *api.Bench) { b.Problem.Facts[2].A = 1 }), api.ErrArg},
		{changed(func(b *api.Bench) { b.Problem.Facts[2].ID = -1 }), api.ErrArg},
		{changed(func(b *api.Bench) { b.Problem.Facts[2].ID = 14 }), api.ErrNone},
		{changed(func(b *api.Bench) { b.Problem.Facts[0].ID = 1 }), api.ErrNone}, // a witness, not an account
		{changed(func(b *api.Bench) { b.Witnesses[2].ID = 2 }), api.ErrTwice},
		{changed(func(b *api.Bench) { b.Witnesses[2].ID = 1 }), api.ErrTwice},
		{changed(func(b *api.Bench) { b.Accounts[2].ID = 12 }), api.ErrTwice},
		{changed(func(b *api.Bench) { b.Accounts[2].ID = 11 }), api.ErrTwice},
		{changed(func(b *api.Bench) { b.Witnesses = nil }), api.ErrNone},
		{changed(func(b *api.Bench) { b.Accounts = nil }), api.ErrNone},
	}
	for _, id := range []int{0, -1, -greatID, greatID + 1, math.MaxInt64, math.MinInt64} {
		l = append(l, wrongBench{changed(func(b *api.Bench) { b.Witnesses[1].ID = id }), api.ErrArg})
		l = append(l, wrongBench{changed(func(b *api.Bench) { b.Accounts[1].ID = id }), api.ErrArg})
		l = append(l, wrongBench{changed(func(b *api.Bench) { b.Accounts[1].Witness = id }), api.ErrNone})
	}
	for _, n := range []int{-1, told + 1, math.MaxInt64, math.MinInt64} {
		l = append(l, wrongBench{changed(func(b *api.Bench) { b.Witnesses[1].Right = n }), api.ErrArg})
		l = append(l, wrongBench{changed(func(b *api.Bench) { b.Witnesses[1].Wrong = n }), api.ErrArg})
	}
	return append(l, twiceWrong()...)
}

// twiceWrong returns benches with two errors each, of which the first one counts.
func twiceWrong() []wrongBench {
	return []wrongBench{
		{changed(func(b *api.Bench) { b.Problem.Boxes[1] = box(1, 0, 0, 0); b.Witnesses = make([]api.Witness, 13) }), api.ErrArg},
		{changed(func(b *api.Bench) { b.Problem.Facts[0].Kind = 0; b.Accounts[1].ID = 11 }), api.ErrArg},
		{changed(func(b *api.Bench) { b.Witnesses = make([]api.Witness, 13) }), api.ErrLimit},
		{changed(func(b *api.Bench) { b.Witnesses[0].ID = 0; b.Accounts = make([]api.Account, 9) }), api.ErrLimit},
		{changed(func(b *api.Bench) { b.Witnesses[1].ID = 1; b.Witnesses[2].Right = -1 }), api.ErrTwice},
		{changed(func(b *api.Bench) { b.Witnesses[1].Right = -1; b.Witnesses[2].ID = 1 }), api.ErrArg},
		{changed(func(b *api.Bench) { b.Witnesses[1] = witness(1, -1, 0) }), api.ErrArg},
		{changed(func(b *api.Bench) { b.Witnesses[2].ID = 2; b.Accounts[0].ID = 0 }), api.ErrTwice},
		{changed(func(b *api.Bench) { b.Witnesses[2].ID = 2; b.Accounts[0].Witness = 7 }), api.ErrTwice},
		{changed(func(b *api.Bench) { b.Accounts[1] = account(0, 7) }), api.ErrArg},
		{changed(func(b *api.Bench) { b.Accounts[1] = account(11, 7) }), api.ErrNone},
		{changed(func(b *api.Bench) { b.Accounts[1].ID = 11; b.Accounts[2].ID = 0 }), api.ErrTwice},
		{changed(func(b *api.Bench) { b.Accounts[1].Witness = 7; b.Accounts[2].ID = 0 }), api.ErrNone},
		{changed(func(b *api.Bench) { b.Accounts[1].ID = -1; b.Accounts[2].ID = 11 }), api.ErrArg},
		{changed(func(b *api.Bench) { b.Problem.Facts[0].ID = 7; b.Accounts[2].ID = 11 }), api.ErrTwice},
	}
}

func TestCheck(t *testing.T) {
	for _, b := range []api.Bench{
		{}, example(), tied(), clashing(), many(12, 8), many(1, 0), bench(huge(), always(greatID, 0, 1)), intractable()[0],
		changed(func(b *api.Bench) { b.Witnesses[0] = witness(1, told, told) }),
		changed(func(b *api.Bench) { b.Witnesses[0].ID = greatID; b.Accounts[0].Witness = greatID }),
		changed(func(b *api.Bench) { b.Accounts[1].ID = 1; b.Problem.Facts[1].ID = 1 }), // a witness has this ID too
		changed(func(b *api.Bench) { b.Problem.Facts = nil }),
		changed(func(b *api.Bench) { b.Problem.Facts[1].ID = 0 }),
	} {
		if e := credit.Check(b); e != api.OK {
			t.Errorf("P7.1: Check of %v is %d", b, e)
		}
	}
	for _, x := range wrongBenches() {
		if e := credit.Check(x.b); e != x.want {
			t.Errorf("P7.1: Check of %v is %d, not %d", x.b, e, x.want)
		}
	}
}

func TestCheckComesFirst(t *testing.T) {
	for _, x := range wrongBenches() {
		for what, results := range settled(x.b) {
			wantError(t, what+" of a wrong bench", x.want, results...)
		}
		for _, ids := range [][]int{nil, {11}, {7}, {2, 1}} {
			for what, results := range withIDs(x.b, ids) {
				wantError(t, what+" of a wrong bench", x.want, results...)
			}
		}
		wantError(t, "P7.4: Contradictions of a wrong bench", x.want, all(credit.Contradictions(x.b))...)
		wantError(t, "P7.8: CheckAccount of a wrong bench", x.want, credit.CheckAccount(x.b, api.Judgement{Conflicts: make([]api.Conflict, 81)}))
	}
}

func TestWorth(t *testing.T) {
	for _, x := range []struct {
		w    api.Witness
		want int
	}{
		{witness(1, 8, 0), 900000},
		{witness(2, 0, 0), 500000},
		{witness(3, 0, 2), 250000},
		{witness(greatID, told, 0), 999900},
		{witness(1, 0, told), 99},
		{witness(1, told, told), 500000},
		{witness(1, 0, 1), 333333},
		{witness(1, 1, 0), 666666},
	} {
		n, e := credit.Worth(x.w)
		if e != api.OK || n != x.want {
			t.Errorf("P7.1: Worth of %v is %d, %d, not %d", x.w, n, e, x.want)
		}
	}
	r := newRand(7, 1)
	for range 2000 {
		w := witness(1+r.IntN(9), r.IntN(told+1)>>r.IntN(14), r.IntN(told+1)>>r.IntN(14))
		if n, e := credit.Worth(w); e != api.OK || n != slowWorth(w) {
			t.Fatalf("P7.1: Worth of %v is %d, %d, not %d", w, n, e, slowWorth(w))
		}
	}
	for _, w := range []api.Witness{{}, witness(-1, 0, 0), witness(greatID+1, 0, 0), witness(1, -1, 0), witness(1, 0, -1), witness(1, told+1, 0), witness(1, 0, told+1), witness(1, math.MaxInt64, 0), witness(1, -1, -1), witness(math.MinInt64, 0, 0)} {
		wantError(t, "P7.1: Worth of a wrong witness", api.ErrArg, all(credit.Worth(w))...)
	}
}

func TestErrorsOfNamedIDs(t *testing.T) {
	for _, b := range []api.Bench{example(), clashing(), many(1, 8)} {
		first := b.Accounts[0].ID
		for _, x := range []struct {
			ids  []int
			want api.Errno
		}{
			{[]int{first, first}, api.ErrArg},
			{[]int{first + 1, first}, api.ErrArg},
			{[]int{first, first + 1, first + 1}, api.ErrArg},
			{[]int{first, first + 2, first + 1}, api.ErrArg},
			{[]int{99, 98}, api.ErrArg},
			{[]int{math.MaxInt64, math.MinInt64}, api.ErrArg},
			{[]int{99, first}, api.ErrArg},
			{[]int{first, 99}, api.ErrNone},
			{[]int{0}, api.ErrNone},
			{[]int{0, first}, api.ErrNone},
			{[]int{-1}, api.ErrNone},
			{[]int{math.MinInt64, math.MaxInt64}, api.ErrNone},
		} {
			for what, results := range withIDs(b, x.ids) {
				wantError(t, what, x.want, results...)
			}
		}
	}
	// The ID of a witness is not one of an account.
	for what, results := range withIDs(example(), []int{1}) {
		wantError(t, what, api.ErrNone, results...)
	}
}

func TestWeight(t *testing.T) {
	b := example()
	for _, x := range []struct {
		ids  []int
		want int
	}{{nil, 0}, {[]int{11}, 900000}, {[]int{12}, 500000}, {[]int{11, 13}, 1150000}, {[]int{11, 12, 13}, 1650000}} {
		if n, e := credit.Weight(b, x.ids); e != api.OK || n != x.want {
			t.Errorf("P7.2: Weight of %v is %d, %d, not %d", x.ids, n, e, x.want)
		}
	}
	if n, e := credit.Weight(tied(), []int{11, 12, 13}); e != api.OK || n != 2300000 {
		t.Errorf("P7.2: Weight of two accounts of one witness and one of another is %d, %d", n, e)
	}
	for i, b := range intractable() { // Weight does not ask
		ids := []int{b.Accounts[0].ID}
		if n, e := credit.Weight(b, ids); e != api.OK || n != 500000 {
			t.Errorf("P7.2: Weight of the bench %d, which is not tractable, is %d, %d", i, n, e)
		}
	}
}

func TestAgree(t *testing.T) {
	for _, x := range []struct {
		b    api.Bench
		ids  []int
		want bool
	}{
		{example(), nil, true},
		{example(), []int{11, 12}, true},
		{example(), []int{11, 13}, false},
		{example(), []int{11, 12, 13}, false},
		{clashing(), nil, false},
		{clashing(), []int{12}, false},
		{api.Bench{}, nil, true},
		{many(1, 8), []int{1, 2, 3, 4, 5, 6, 7, 8}, true},
	} {
		if is, e := credit.Agree(x.b, x.ids); e != api.OK || is != x.want {
			t.Errorf("P7.2: Agree of %v in %v is %v, %d", x.ids, x.b, is, e)
		}
	}
}

func TestAgreeAsksForTheseAccountsAlone(t *testing.T) {
	l := intractable()
	for _, x := range []struct {
		b    api.Bench
		ids  []int
		want api.Errno
	}{
		{l[0], nil, api.ErrLimit},
		{l[0], []int{4}, api.OK},
		{l[1], nil, api.OK},
		{l[1], []int{3}, api.ErrLimit},
		{l[1], []int{3, 4}, api.OK},
		{l[2], []int{3}, api.OK},
		{l[2], []int{5}, api.OK},
		{l[2], []int{3, 5}, api.ErrLimit},
		{l[2], []int{3, 5, 9}, api.OK},
		{l[3], nil, api.OK},
		{l[3], []int{7}, api.ErrLimit},
	} {
		is, e := credit.Agree(x.b, x.ids)
		wantError(t, "P7.2: Agree", x.want, is, e)
		if x.want == api.OK && !is {
			t.Errorf("P7.2: Agree of %v in %v is false", x.ids, x.b)
		}
	}
	for what, results := range withIDs(l[0], []int{4, 4}) {
		wantError(t, what, api.ErrArg, results...)
	}
	for what, results := range withIDs(l[0], []int{3}) {
		wantError(t, what, api.ErrNone, results...)
	}
	empty := bench(huge(), always(0, 0, 1), east(4, 0, 1, 2000, 3000)) // narrowing leaves nothing: this is tractable
	if is, e := credit.Agree(empty, []int{4}); is || e != api.OK {
		t.Errorf("P7.2: Agree of an account that cannot be true is %v, %d", is, e)
	}
}

func TestSumsOfRandomBenches(t *testing.T) {
	r := newRand(7, 2)
	n := map[bool]int{}
	for range 300 {
		b := randomBench(r)
		s := slowly(b)
		for _, ids := range subsets(s.ids) {
			if w, e := credit.Weight(b, ids); e != api.OK || w != s.weight(ids) {
				t.Fatalf("P7.2: Weight of %v in %v is %d, %d, not %d", ids, b, w, e, s.weight(ids))
			}
			is, e := credit.Agree(b, ids)
			if e != api.OK || is != s.agree(ids) {
				t.Fatalf("P7.2: Agree of %v in %v is %v, %d", ids, b, is, e)
			}
			n[is]++
			checkWithout(t, b, ids)
			checkLearn(t, b, ids)
		}
	}
	if min(n[true], n[false]) < 500 {
		t.Errorf("P7.2: these benches test little: %v", n)
	}
}

// checkWithout compares a bench without some accounts with the words of the chapter.
func checkWithout(t *testing.T, b api.Bench, ids []int) {
	t.Helper()
	want := api.Bench{Witnesses: b.Witnesses, Problem: api.Problem{Boxes: b.Problem.Boxes}}
	for _, a := range b.Accounts {
		if !slices.Contains(ids, a.ID) {
			want.Accounts = append(want.Accounts, a)
		}
	}
	for _, f := range b.Problem.Facts {
		if !slices.Contains(ids, f.ID) {
			want.Problem.Facts = append(want.Problem.Facts, f)
		}
	}
	got, e := credit.Without(b, ids)
	if e != api.OK || !sameBench(got, want) || credit.Check(got) != api.OK {
		t.Fatalf("P7.3: Without %v of %v is %v, %d", ids, b, got, e)
	}
}

// checkLearn compares what is learnt with the words of the chapter; the records are far from the limit.
func checkLearn(t *testing.T, b api.Bench, wrong []int) {
	t.Helper()
	want := copied(b)
	for i := range want.Witnesses {
		w := &want.Witnesses[i]
		for _, a := range b.Accounts {
			if a.Witness == w.ID && slices.Contains(wrong, a.ID) {
				w.Wrong++
			}
			if a.Witness == w.ID && !slices.Contains(wrong, a.ID) {
				w.Right++
			}
		}
	}
	if got, e := credit.Learn(b, wrong); e != api.OK || !sameBench(got, want) {
		t.Fatalf("P7.3: Learn of %v, in which %v are wrong, is %v, %d", b, wrong, got, e)
	}
}

func TestLearnAtTheLimit(t *testing.T) {
	// The witness 1 has the accounts 1 to 3, the witness 2 has none.
	with := func(right, wrong int) api.Bench {
		return api.Bench{Witnesses: []api.Witness{witness(2, told, told), witness(1, right, wrong)}, Accounts: []api.Account{account(1, 1), account(2, 1), account(3, 1)}}
	}
	for _, x := range []struct {
		b     api.Bench
		wrong []int
		want  api.Errno
	}{
		{with(told-3, 0), nil, api.OK},
		{with(told-2, 0), nil, api.ErrLimit},
		{with(told-2, 0), []int{2}, api.OK},
		{with(told-1, 0), []int{2}, api.ErrLimit},
		{with(told, told-3), []int{1, 2, 3}, api.OK},
		{with(told, told-2), []int{1, 2, 3}, api.ErrLimit},
		{with(told, 0), []int{1, 3}, api.ErrLimit},
		{with(0, told), []int{3}, api.ErrLimit},
		{with(told-1, told-2), []int{2, 3}, api.OK},
		{with(told, told), nil, api.ErrLimit},
		{with(told, told), []int{3, 2}, api.ErrArg},
		{with(told, told), []int{4}, api.ErrNone},
	} {
		b, e := credit.Learn(x.b, x.wrong)
		wantError(t, "P7.3: Learn at the limit", x.want, b, e)
		if x.want == api.OK {
			checkLearn(t, x.b, x.wrong)
		}
	}
}

func TestOtherBenchesAreNewMemory(t *testing.T) {
	// Room behind the lists would be written to by an append that keeps them.
	room := func() api.Bench {
		b := example()
		b.Witnesses, b.Accounts, b.Problem.Facts = slices.Grow(b.Witnesses, 9), slices.Grow(b.Accounts, 9), slices.Grow(b.Problem.Facts, 9)
		return b
	}
	for _, ids := range [][]int{nil, {11}, {12, 13}, {11, 12, 13}} {
		for _, other := range []func(api.Bench, []int) (api.Bench, api.Errno){credit.Without, credit.Learn} {
			b := room()
			got, _ := other(b, ids)
			clear(got.Witnesses)
			clear(got.Accounts)
			clear(got.Problem.Facts)
			clear(got.Problem.Boxes)
			if !sameBench(b, example()) || !slices.Equal(b.Accounts[:4], append(example().Accounts, api.Account{})) {
				t.Errorf("R6: another bench with %v shares memory with %v", ids, b)
			}
		}
	}
}

func TestCallsDoNotModifyBenches(t *testing.T) {
	r := newRand(7, 3)
	for range 100 {
		b := randomBench(r)
		slices.Reverse(b.Accounts)
		before := copied(b)
		ids := slowly(b).ids
		given := slices.Clone(ids)
		withIDs(b, given)
		settled(b)
		credit.Contradictions(b)
		j, _ := credit.Account(b)
		credit.CheckAccount(b, j)
		if !sameBench(b, before) || !slices.Equal(given, ids) {
			t.Fatalf("R6: a call modified %v or %v", before, ids)
		}
	}
}

func TestWithoutKeepsTheSolutionsOfTheOthers(t *testing.T) {
	r := newRand(7, 4)
	for range 200 {
		b, s := disputed(r)
		for _, ids := range s.withdrawals() {
			less, _ := credit.Without(b, ids)
			n, e := search.Count(less.Problem)
			if want := len(s.solutions(s.rest(ids))); e != api.OK || n != want || want == 0 {
				t.Fatalf("P7.3: without %v the bench %v has %d solutions (%d), not %d", ids, b, n, e, want)
			}
		}
	}
}
