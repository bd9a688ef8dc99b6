package credit_test

import (
	"slices"
	"testing"

	"boundstone/api"
	"boundstone/credit"
	"boundstone/search"
)

func TestProve(t *testing.T) {
	b := example()
	c, e := credit.Prove(b, []int{11, 13})
	if e != api.OK || !slices.Equal(c.IDs, []int{11, 13}) || !slowly(b).isConflict(c) {
		t.Errorf("P7.7: Prove is %v, %d", c, e)
	}
	if e := credit.CheckConflict(b, c); e != api.OK {
		t.Errorf("P7.7: CheckConflict is %d", e)
	}
	for _, ids := range [][]int{nil, {11}, {13}, {11, 12}, {12, 13}, {11, 12, 13}} {
		wantError(t, "P7.7: Prove", api.ErrState, all(credit.Prove(b, ids))...)
	}
	c, e = credit.Prove(clashing(), nil)
	if e != api.OK || len(c.IDs) != 0 || len(c.Ends) != 0 || len(c.Tree) == 0 || credit.CheckConflict(clashing(), c) != api.OK {
		t.Errorf("P7.7: Prove of facts of no account is %v, %d", c, e)
	}
	wantError(t, "P7.7: Prove", api.ErrState, all(credit.Prove(clashing(), []int{11}))...)
	wantError(t, "P7.7: Prove", api.ErrState, all(credit.Prove(clashing(), []int{11, 13}))...)
}

func TestProveOfRandomBenches(t *testing.T) {
	r := newRand(7, 7)
	proved, longest := 0, 0
	for range 800 {
		b := randomBench(r)
		s := slowly(b)
		l := s.contradictions()
		for _, ids := range subsets(s.ids) {
			c, e := credit.Prove(b, ids)
			if !slices.ContainsFunc(l, func(other []int) bool { return slices.Equal(other, ids) }) {
				wantError(t, "P7.7: Prove of what is not a minimal contradiction", api.ErrState, c, e)
				continue
			}
			if e != api.OK || !slices.Equal(c.IDs, ids) || !s.isConflict(c) {
				t.Fatalf("P7.7: Prove of %v in %v is %v, %d", ids, b, c, e)
			}
			if e := credit.CheckConflict(b, c); e != api.OK {
				t.Fatalf("P7.7: CheckConflict of %v in %v is %d", c, b, e)
			}
			proved, longest = proved+1, max(longest, len(ids))
		}
	}
	if proved < 300 || longest < 4 {
		t.Errorf("P7.7: these benches test little: %d conflicts, of at most %d accounts", proved, longest)
	}
}

func TestProveAsksForTheseAccountsAlone(t *testing.T) {
	// Each account is tractable only together with another one, or not at all.
	boxes := huge()
	for _, x := range []struct {
		what  string
		facts []api.Fact
		ids   []int
		want  api.Errno
	}{
		{"none", []api.Fact{east(1, 0, 1, 3, 3), east(2, 0, 1, 4, 4), always(3, 0, 1)}, []int{1, 2}, api.OK},
		{"all", []api.Fact{always(1, 0, 1)}, []int{1}, api.ErrLimit},
		{"without the first", []api.Fact{east(1, 0, 1, 3, 3), not(east(2, 0, 1, 3, 3))}, []int{1, 2}, api.ErrLimit},
		{"without the last", []api.Fact{not(east(1, 0, 1, 3, 3)), east(2, 0, 1, 3, 3)}, []int{1, 2}, api.ErrLimit},
		{"without any", []api.Fact{always(0, 0, 1), east(1, 0, 1, 3000, 4000)}, []int{1}, api.ErrLimit},
		{"the others are not asked", []api.Fact{east(1, 0, 1, 3000, 4000), always(2, 0, 1)}, []int{1}, api.OK},
		{"they agree, but one alone is too much", []api.Fact{always(1, 0, 1), east(2, 0, 1, 3, 3)}, []int{1, 2}, api.ErrLimit},
		{"one alone contradicts itself, the other one is too much", []api.Fact{east(1, 0, 1, 3000, 4000), always(2, 0, 1)}, []int{1, 2}, api.ErrLimit},
		{"they agree", []api.Fact{east(1, 0, 1, 3, 3), east(2, 0, 1, 3, 3)}, []int{1, 2}, api.ErrState},
	} {
		b := bench(boxes, x.facts...)
		c, e := credit.Prove(b, x.ids)
		wantError(t, "P7.7: Prove ("+x.what+")", x.want, c, e)
		if e == api.OK && credit.CheckConflict(b, c) != api.OK {
			t.Errorf("P7.7: CheckConflict does not accept %v", c)
		}
	}
	// The errors of the IDs come first.
	b := bench(boxes, always(1, 0, 1))
	wantError(t, "P7.7: Prove", api.ErrNone, all(credit.Prove(b, []int{1, 2}))...)
	wantError(t, "P7.7: Prove", api.ErrArg, all(credit.Prove(b, []int{1, 1}))...)
}

// copiedConflict returns a conflict that shares no memory with another one.
func copiedConflict(c api.Conflict) api.Conflict {
	ends := slices.Clone(c.Ends)
	for i, l := range ends {
		ends[i] = slices.Clone(l)
	}
	return api.Conflict{IDs: slices.Clone(c.IDs), Tree: slices.Clone(c.Tree), Ends: ends}
}

func TestCheckConflictOfWrongOnes(t *testing.T) {
	b := example()
	right, _ := credit.Prove(b, []int{11, 13})
	for i, x := range []struct {
		change func(c *api.Conflict)
		want   api.Errno
	}{
		{func(c *api.Conflict) {}, api.OK},
		{func(c *api.Conflict) { c.IDs = []int{13, 11} }, api.ErrArg},
		{func(c *api.Conflict) { c.IDs[0] = 13 }, api.ErrArg},
		{func(c *api.Conflict) { c.IDs[1] = 14 }, api.ErrNone},
		{func(c *api.Conflict) { c.IDs[0], c.Tree, c.Ends = 1, nil, nil }, api.ErrNone},
		{func(c *api.Conflict) { c.IDs[1] = 12 }, api.ErrProof},
		{func(c *api.Conflict) { c.IDs = []int{11, 12, 13} }, api.ErrProof},
		{func(c *api.Conflict) { c.IDs = c.IDs[:1] }, api.ErrProof},
		{func(c *api.Conflict) { c.IDs = nil }, api.ErrProof},
		{func(c *api.Conflict) { c.Tree = nil }, api.ErrProof},
		{func(c *api.Conflict) { c.Tree = c.Tree[:len(c.Tree)-1] }, api.ErrProof},
		{func(c *api.Conflict) { c.Tree = append(c.Tree, c.Tree[0]) }, api.ErrProof},
		{func(c *api.Conflict) { c.Tree[0].Fact += 5 }, api.ErrProof},
		{func(c *api.Conflict) { c.Tree[len(c.Tree)-1].At = 3 }, api.ErrProof},
		{func(c *api.Conflict) { c.Ends = nil }, api.ErrProof},
		{func(c *api.Conflict) { c.Ends = c.Ends[:1] }, api.ErrProof},
		{func(c *api.Conflict) { c.Ends = append(c.Ends, c.Ends[0]) }, api.ErrProof},
		{func(c *api.Conflict) { c.Ends[0], c.Ends[1] = c.Ends[1], c.Ends[0] }, api.ErrProof},
		{func(c *api.Conflict) { c.Ends[1] = nil }, api.ErrProof},
		{func(c *api.Conflict) { c.Ends[0] = append(c.Ends[0], at(0, 0)) }, api.ErrProof},
		{func(c *api.Conflict) { c.Ends[0][1].X = 6 }, api.ErrProof},
		{func(c *api.Conflict) { c.Ends[0][1].X = 10 }, api.ErrProof},
		{func(c *api.Conflict) { c.Ends[0][0].Y = 1 }, api.ErrProof},
		{func(c *api.Conflict) { c.Ends[1][1].X = 2 }, api.ErrProof},
		{func(c *api.Conflict) { c.Ends[1][1].X = 3 }, api.OK},
		{func(c *api.Conflict) { c.Ends[1][1].X = 5 }, api.OK},
	} {
		c := copiedConflict(right)
		x.change(&c)
		before := copiedConflict(c)
		if e := credit.CheckConflict(b, c); e != x.want {
			t.Errorf("P7.7: CheckConflict of the change %d is %d, not %d", i, e, x.want)
		}
		if !slices.Equal(c.IDs, before.IDs) || !slices.Equal(c.Tree, before.Tree) || !slices.EqualFunc(c.Ends, before.Ends, slices.Equal) {
			t.Errorf("R6: CheckConflict modifies %v", before)
		}
	}
}

// far returns a bench whose accounts 1 and 2 contradict each other, as narrowing finds; neither of them alone is tractable. A conflict of both goes with it.
func far() (api.Bench, api.Conflict) {
	whole := box(0, 1023, 0, 1023)
	b := bench([]api.Box{whole, whole}, east(1, 0, 1, 500, 1023), east(2, 0, 1, 0, 400))
	tree, _ := search.Refute(b.Problem)
	return b, api.Conflict{IDs: []int{1, 2}, Tree: tree, Ends: [][]api.Point{{at(0, 0), at(400, 7)}, {at(500, 9), at(1023, 0)}}}
}

func TestCheckConflictDoesNotSearch(t *testing.T) {
	b, c := far()
	if e := credit.CheckConflict(b, c); e != api.OK {
		t.Errorf("P7.7: CheckConflict of what is not tractable is %d", e)
	}
	wantError(t, "P7.7: Prove", api.ErrLimit, all(credit.Prove(b, []int{1, 2}))...)
	c.Ends[0][1].X = 401
	if e := credit.CheckConflict(b, c); e != api.ErrProof {
		t.Errorf("P7.7: CheckConflict of a wrong end is %d", e)
	}
}

func TestTreesThatAreTooLong(t *testing.T) {
	// The fact fails from the start, but the trees go on.
	b := bench([]api.Box{box(0, 1023, 0, 0), box(0, 1023, 0, 0)}, east(4, 0, 1, 3000, 4000))
	end := []api.Point{at(0, 0), at(0, 0)}
	for _, x := range []struct {
		leaves int
		want   api.Errno
	}{{1, api.OK}, {1024, api.OK}, {nodes / 2, api.OK}, {nodes/2 + 1, api.ErrProof}} {
		c := api.Conflict{IDs: []int{4}, Tree: combs(x.leaves), Ends: [][]api.Point{end}}
		if e := credit.CheckConflict(b, c); e != x.want {
			t.Errorf("P7.7: CheckConflict of a tree with %d nodes is %d, not %d", len(c.Tree), e, x.want)
		}
	}
}

// combs returns a tree with so many leaves, all of the fact 0, which cuts numbers off the point 0 one by one, and each time the point 1 likewise.
func combs(leaves int) []api.Node {
	leaf := api.Node{}
	var tree []api.Node
	left := leaves
	for x := 0; left > 0; x++ {
		last := left <= 1024 || x == 1023
		if !last {
			tree = append(tree, api.Node{Fact: -1, Point: 0, Axis: 0, At: x})
		}
		n := min(left, 1024)
		for y := range n - 1 {
			tree = append(tree, api.Node{Fact: -1, Point: 1, Axis: 0, At: y}, leaf)
		}
		tree = append(tree, leaf)
		left -= n
	}
	return tree
}

func TestAccount(t *testing.T) {
	b := example()
	j, e := credit.Account(b)
	if e != api.OK || j.Price != 250000 || !sameSets(j.Least, [][]int{{13}}) || len(j.Conflicts) != 1 || !slowly(b).isProved(j) {
		t.Errorf("P7.8: Account is %v, %d", j, e)
	}
	if !slices.Equal(j.Points[0], []api.Point{at(0, 0), at(5, 0)}) {
		t.Errorf("P7.8: without the account 13 the points are %v", j.Points)
	}
	j, e = credit.Account(many(2, 4))
	if e != api.OK || j.Price != 0 || len(j.Least) != 1 || len(j.Least[0]) != 0 || len(j.Points) != 1 || len(j.Conflicts) != 0 {
		t.Errorf("P7.8: Account of accounts that agree is %v, %d", j, e)
	}
	j, e = credit.Account(api.Bench{})
	if e != api.OK || len(j.Least) != 1 || len(j.Points) != 1 || len(j.Points[0]) != 0 || credit.CheckAccount(api.Bench{}, j) != api.OK {
		t.Errorf("P7.8: Account of nothing is %v, %d", j, e)
	}
	j, e = credit.Account(covering())
	if e != api.OK || len(j.Conflicts) != 70 || credit.CheckAccount(covering(), j) != api.OK {
		t.Errorf("P7.8: Account of 70 contradictions has %d conflicts, %d", len(j.Conflicts), e)
	}
}

func TestAccountsOfRandomBenches(t *testing.T) {
	r := newRand(7, 8)
	several := 0
	for range 600 {
		b := randomBench(r)
		s := slowly(b)
		price, least, is := s.least()
		j, e := credit.Account(b)
		if !is {
			wantError(t, "P7.8: Account", api.ErrClash, j, e)
			continue
		}
		if e != api.OK || j.Price != price || !sameSets(j.Least, least) || !s.isProved(j) {
			t.Fatalf("P7.8: Account of %v is %v, %d", b, j, e)
		}
		var family [][]int
		for _, c := range j.Conflicts {
			family = append(family, c.IDs)
		}
		if !sameSets(family, s.contradictions()) {
			t.Fatalf("P7.8: the conflicts of Account of %v are those of %v", b, family)
		}
		if e := credit.CheckAccount(b, j); e != api.OK {
			t.Fatalf("P7.11: CheckAccount does not accept Account of %v: %d", b, e)
		}
		if len(least) > 1 {
			several++
		}
	}
	if several < 20 {
		t.Errorf("P7.8: these benches test little: %d", several)
	}
}

// copiedJudgement returns a judgement that shares no memory with another one.
func copiedJudgement(j api.Judgement) api.Judgement {
	j.Least, j.Points, j.Conflicts = slices.Clone(j.Least), slices.Clone(j.Points), slices.Clone(j.Conflicts)
	for i, set := range j.Least {
		j.Least[i] = slices.Clone(set)
	}
	for i, l := range j.Points {
		j.Points[i] = slices.Clone(l)
	}
	for i, c := range j.Conflicts {
		j.Conflicts[i] = copiedConflict(c)
	}
	return j
}

func sameConflict(a, b api.Conflict) bool {
	return slices.Equal(a.IDs, b.IDs) && slices.Equal(a.Tree, b.Tree) && slices.EqualFunc(a.Ends, b.Ends, slices.Equal)
}

func sameJudgement(a, b api.Judgement) bool {
	return a.Price == b.Price && sameSets(a.Least, b.Least) && slices.EqualFunc(a.Points, b.Points, slices.Equal) && slices.EqualFunc(a.Conflicts, b.Conflicts, sameConflict)
}

func TestCheckAccountOfWrongOnes(t *testing.T) {
	b := tied() // two least withdrawals, 11 and 13
	right, _ := credit.Account(b)
	one := right.Conflicts[0]
	for i, x := range []struct {
		change func(j *api.Judgement)
		want   api.Errno
	}{
		{func(j *api.Judgement) {}, api.OK},
		{func(j *api.Judgement) { j.Price++ }, api.ErrProof},
		{func(j *api.Judgement) { j.Price-- }, api.ErrProof},
		{func(j *api.Judgement) { j.Price = 0 }, api.ErrProof},
		{func(j *api.Judgement) { j.Least = nil }, api.ErrProof},
		{func(j *api.Judgement) { j.Least, j.Points = nil, nil }, api.ErrProof},
		{func(j *api.Judgement) { j.Least, j.Points = j.Least[:1], j.Points[:1] }, api.ErrProof},
		{func(j *api.Judgement) { j.Least, j.Points = append(j.Least, []int{12}), append(j.Points, j.Points[0]) }, api.ErrProof},
		{func(j *api.Judgement) {
			j.Least, j.Points = append(j.Least, j.Least[1]), append(j.Points, j.Points[1])
		}, api.ErrProof},
		{func(j *api.Judgement) { slices.Reverse(j.Least); slices.Reverse(j.Points) }, api.ErrProof},
		{func(j *api.Judgement) { slices.Reverse(j.Points) }, api.ErrProof},
		{func(j *api.Judgement) { j.Least[0] = nil }, api.ErrProof},
		{func(j *api.Judgement) { j.Least[0] = []int{11, 12} }, api.ErrProof},
		{func(j *api.Judgement) { j.Least[1] = []int{13, 13} }, api.ErrProof},
		{func(j *api.Judgement) { j.Least[1] = []int{14} }, api.ErrProof},
		{func(j *api.Judgement) { j.Points = j.Points[:1] }, api.ErrProof},
		{func(j *api.Judgement) { j.Points = append(j.Points, j.Points[1]) }, api.ErrProof},
		{func(j *api.Judgement) { j.Points[0] = nil }, api.ErrProof},
		{func(j *api.Judgement) { j.Points[1][1].X = 6 }, api.ErrProof},
		{func(j *api.Judgement) { j.Points[0][1].Y = 1 }, api.ErrProof},
		{func(j *api.Judgement) { j.Conflicts = nil }, api.ErrProof},
		{func(j *api.Judgement) { j.Conflicts[0].Ends = nil }, api.ErrProof},
		{func(j *api.Judgement) { j.Conflicts[0].Tree = nil }, api.ErrProof},
		{func(j *api.Judgement) { j.Conflicts[0].IDs = []int{13, 11} }, api.ErrProof},
		{func(j *api.Judgement) { j.Conflicts[0].IDs[1] = 99 }, api.ErrProof},
		{func(j *api.Judgement) { j.Conflicts = append(j.Conflicts, api.Conflict{}) }, api.ErrProof},
		{func(j *api.Judgement) { j.Conflicts = append([]api.Conflict{{}}, j.Conflicts...) }, api.ErrProof},
		{func(j *api.Judgement) { j.Conflicts = append(j.Conflicts, one, one) }, api.OK},
		{func(j *api.Judgement) { j.Conflicts = slices.Repeat(j.Conflicts, 80) }, api.OK},
		{func(j *api.Judgement) { j.Conflicts = slices.Repeat(j.Conflicts, 81) }, api.ErrLimit},
		{func(j *api.Judgement) { *j = api.Judgement{Conflicts: make([]api.Conflict, 81)} }, api.ErrLimit},
		{func(j *api.Judgement) { *j = api.Judgement{Conflicts: make([]api.Conflict, 80)} }, api.ErrProof},
		{func(j *api.Judgement) { *j = api.Judgement{} }, api.ErrProof},
	} {
		j := copiedJudgement(right)
		x.change(&j)
		before := copiedJudgement(j)
		if e := credit.CheckAccount(b, j); e != x.want {
			t.Errorf("P7.8: CheckAccount of the change %d is %d, not %d", i, e, x.want)
		}
		if !sameJudgement(j, before) {
			t.Errorf("R6: CheckAccount modifies %v", before)
		}
	}
}

func TestNothingIsProvedWithoutAWithdrawal(t *testing.T) {
	b := clashing()
	c, e := credit.Prove(b, nil)
	if e != api.OK {
		t.Fatalf("P7.7: the error of Prove is %d", e)
	}
	for _, j := range []api.Judgement{
		{Conflicts: []api.Conflict{c}},
		{Conflicts: []api.Conflict{c}, Least: [][]int{nil}, Points: [][]api.Point{nil}},
		{Conflicts: []api.Conflict{c}, Least: [][]int{nil}, Points: [][]api.Point{{at(0, 0), at(0, 0)}}},
		{Least: [][]int{nil}, Points: [][]api.Point{{at(0, 0), at(0, 0)}}},
	} {
		if e := credit.CheckAccount(b, j); e != api.ErrProof {
			t.Errorf("P7.8: CheckAccount of %v is %d", j, e)
		}
	}
}

func TestCheckAccountDoesNotSearch(t *testing.T) {
	b, c := far()
	b.Witnesses[0].Right = 1
	wantError(t, "P7.8: Account", api.ErrLimit, all(credit.Account(b))...)
	j := api.Judgement{Price: 500000, Least: [][]int{{2}}, Points: [][]api.Point{{at(3, 3), at(503, 0)}}, Conflicts: []api.Conflict{c}}
	if e := credit.CheckAccount(b, j); e != api.OK {
		t.Errorf("P7.8: CheckAccount of what is not tractable is %d", e)
	}
	j.Points[0][1].X--
	if e := credit.CheckAccount(b, j); e != api.ErrProof {
		t.Errorf("P7.8: CheckAccount of wrong points is %d", e)
	}
}

func TestProofsAreNewMemory(t *testing.T) {
	b := pinned(3)
	ids := []int{1, 2}
	c, _ := credit.Prove(b, ids)
	ids[0] = 7
	if c.IDs[0] != 1 {
		t.Error("R6: the conflict keeps the IDs")
	}
	j, _ := credit.Account(b)
	lists := slices.Clone(j.Least)
	for _, c := range j.Conflicts {
		lists = append(lists, c.IDs)
	}
	shareNothing(t, lists...)
	points := slices.Clone(j.Points)
	for _, c := range j.Conflicts {
		points = append(points, c.Ends...)
	}
	for i, l := range points {
		l[0] = at(i, i)
	}
	for i, l := range points {
		if l[0] != at(i, i) {
			t.Errorf("R6: points of a judgement share memory: %v", points)
		}
	}
	again, _ := credit.Account(b)
	if e := credit.CheckAccount(b, again); e != api.OK {
		t.Errorf("R6: a change of a judgement changes the next one: %d", e)
	}
}
