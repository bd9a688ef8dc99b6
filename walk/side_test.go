package walk_test

import (
	"math/rand/v2"
	"slices"
	"testing"

	"boundstone/api"
	"boundstone/search"
	"boundstone/walk"
)

// checkSettled checks a side with its proof.
func checkSettled(t *testing.T, p api.Parish, year int, point api.Point, s api.Settled) {
	t.Helper()
	if !isSettled(slowJoint(p, []int{year}), ringOf(p, year), point, s) {
		t.Fatalf("P6.8: the side of %v in %d of %v is not proved: %v", point, year, p, s)
	}
	if e := walk.CheckSide(p, year, point, s); e != api.OK {
		t.Fatalf("P6.8: CheckSide of %v in %d of %v, and %v, is %d", point, year, p, s, e)
	}
}

// isSettled reports whether a side is proved, by the words of the chapter.
func isSettled(q api.Problem, ring []int, point api.Point, s api.Settled) bool {
	switch s.Answer {
	case api.Yes, api.No:
		return len(s.Ends) == 0 && fitsSide(q, ring, point, s.Answer, s.Tree)
	case api.Open:
		return len(s.Tree) == 0 && areEnds(q, ring, point, s.Ends)
	}
	return false
}

// areEnds reports whether there are two solutions, of which a point does not lie inside of the first one, and not outside of the second one.
func areEnds(q api.Problem, ring []int, point api.Point, ends [][]api.Point) bool {
	if len(ends) != 2 {
		return false
	}
	for _, l := range ends {
		if _, is := search.Allows(q, l); !is {
			return false
		}
	}
	return lies(along(ring, ends[0]), point) != api.Yes && lies(along(ring, ends[1]), point) != api.No
}

func TestSide(t *testing.T) {
	for _, x := range []struct {
		at   api.Point
		want api.Answer
	}{
		{at(100, 100), api.Yes}, {at(1, 1), api.Yes}, {at(-1, 5), api.No}, {at(300, 1), api.No}, {at(-1, 0), api.No}, {at(0, 401), api.No},
		{at(0, 200), api.Open}, {at(0, 0), api.Open}, {at(300, 0), api.Open}, {at(0, 400), api.Open}, {at(150, 200), api.Open}, {at(150, 201), api.No}, {at(150, 199), api.Yes}, {at(limit, -limit), api.No},
	} {
		s, e := walk.Side(example(), 1710, x.at)
		if s.Answer != x.want || e != api.OK {
			t.Errorf("P6.8: Side of %v is %d, %d, not %d", x.at, s.Answer, e, x.want)
		}
		checkSettled(t, example(), 1710, x.at, s)
	}
	for point, want := range map[api.Point]api.Answer{at(2, 200): api.Open, at(3, 200): api.Yes, at(2, 396): api.Open, at(100, 100): api.Yes, at(-1, 400): api.No} {
		s, e := walk.Side(example(), 1709, point)
		if s.Answer != want || e != api.OK {
			t.Errorf("P6.8: Side of %v without walks is %d, %d, not %d", point, s.Answer, e, want)
		}
		checkSettled(t, example(), 1709, point, s)
	}
}

// crossed returns a parish whose bounds meet themselves.
func crossed() api.Parish {
	return parish([]api.Marked{standing(1, one(at(0, 0))), standing(2, one(at(10, 10))), standing(3, one(at(10, 0))), standing(4, one(at(0, 10)))})
}

func TestEndsOfOneSolution(t *testing.T) {
	s, e := walk.Side(example(), 1710, at(0, 200))
	only := path(0, 0, 300, 0, 0, 400)
	if e != api.OK || len(s.Ends) != 2 || !slices.Equal(s.Ends[0], only) || !slices.Equal(s.Ends[1], only) {
		t.Fatalf("P6.8: Side with one solution is %v, %d", s, e)
	}
	s.Ends[0][0] = at(7, 7)
	if !slices.Equal(s.Ends[1], only) {
		t.Errorf("R6: both ends share memory")
	}
}

func TestSideOfBoundsThatAreNotSimple(t *testing.T) {
	for point, want := range map[api.Point]api.Answer{at(9, 5): api.Yes, at(1, 5): api.No, at(5, 1): api.No, at(5, 5): api.Open, at(5, 0): api.No, at(10, 5): api.Open} {
		s, e := walk.Side(crossed(), 1710, point)
		if got := lies(path(0, 0, 10, 10, 10, 0, 0, 10), point); s.Answer != got || e != api.OK {
			t.Errorf("P6.8: Side of %v is %d, %d, not %d (%d)", point, s.Answer, e, got, want)
		}
		checkSettled(t, crossed(), 1710, point, s)
	}
}

// vast returns a parish with a stone whose box is too large to be searched, and which no walk names.
func vast() api.Parish {
	p := example()
	p.Stones = append(p.Stones, standing(4, box(0, 999, 0, 999)))
	return p
}

func TestErrorsOfSides(t *testing.T) {
	valid, wrong := at(0, 0), at(0, limit+1)
	noRing := vast()
	noRing.Ring = nil
	absent := spread()
	gone := contrary()
	gone.Stones[1].Life.Sights = gone.Stones[1].Life.Sights[:1]
	gone.Walks = gone.Walks[2:3]
	for _, x := range []struct {
		what  string
		p     api.Parish
		year  int
		point api.Point
		e     api.Errno
		found bool // the error is found without a search
	}{
		{"in no year", contrary(), -1, wrong, api.ErrArg, true},
		{"in no year", contrary(), lastYear + 1, valid, api.ErrArg, true},
		{"with an impossible life", clashing(), 1705, wrong, api.ErrClash, true},
		{"without a ring", noRing, 1710, wrong, api.ErrNone, true},
		{"without anything", api.Parish{}, 1710, valid, api.ErrNone, true},
		{"with an absent stone", absent, 1703, wrong, api.ErrNone, true},
		{"with an absent stone and a contradiction", gone, 1710, wrong, api.ErrNone, true},
		{"of a wrong point", vast(), 1710, wrong, api.ErrArg, true},
		{"of a wrong point, and a contradiction", contrary(), 1710, at(-limit-1, 0), api.ErrArg, true},
		{"of a vast problem", vast(), 1710, valid, api.ErrLimit, false},
		{"of a wide problem", wide(), 1710, valid, api.ErrLimit, false},
		{"of a contradiction", contrary(), 1710, valid, api.ErrClash, false},
	} {
		wantError(t, "P6.8: Side "+x.what, x.e, all(walk.Side(x.p, x.year, x.point))...)
		l := make([]api.Further, 5)
		wantError(t, "P6.11: Decides "+x.what, x.e, all(walk.Decides(x.p, x.year, x.point, l))...)
		wantError(t, "P6.12: Cheapest "+x.what, x.e, all(walk.Cheapest(x.p, x.year, x.point, l))...)
		if x.point == valid {
			wantError(t, "P6.9: Area "+x.what, x.e, all(walk.Area(x.p, x.year))...)
		}
		if !x.found {
			x.e = api.ErrProof
		}
		wantError(t, "P6.8: CheckSide "+x.what, x.e, walk.CheckSide(x.p, x.year, x.point, api.Settled{Answer: api.Yes}))
	}
	wantError(t, "P6.9: Area without a ring", api.ErrNone, all(walk.Area(noRing, 1710))...)
	wantError(t, "P6.9: Area with an absent stone", api.ErrNone, all(walk.Area(absent, 1703))...)
}

// TestCheckSideWithoutSearch shows that proofs are checked of problems that cannot be searched.
func TestCheckSideWithoutSearch(t *testing.T) {
	around := []api.Node{{Fact: -2}}
	for _, x := range []struct {
		p api.Parish
		s api.Settled
		e api.Errno
	}{
		{vast(), api.Settled{Answer: api.No, Tree: around}, api.OK},
		{vast(), api.Settled{Answer: api.Yes, Tree: around}, api.ErrProof},
		{vast(), api.Settled{Answer: api.No}, api.ErrProof},
		{wide(), api.Settled{Answer: api.No, Tree: around}, api.OK},
		{contrary(), api.Settled{Answer: api.No, Tree: around}, api.OK},
		{contrary(), api.Settled{Answer: api.Yes, Tree: []api.Node{{Fact: -1, Point: 2, At: 0}, {Fact: -1, Point: 2, Axis: 1, At: 400}, {Fact: 4}, {Fact: 0}, {Fact: -1, Point: 2, Axis: 1, At: 399}, {}, {}}}, api.OK},
	} {
		if e := walk.CheckSide(x.p, 1710, at(-1, -1), x.s); e != x.e {
			t.Errorf("P6.8: CheckSide of %v is %d, not %d", x.s, e, x.e)
		}
	}
}

func TestCheckSideOfWrongTrees(t *testing.T) {
	cut := func(point, axis, at int) api.Node { return api.Node{Fact: -1, Point: point, Axis: axis, At: at} }
	// The stone 3 lies at (0, 400) alone: beyond, the leg is too short or too long.
	right := []api.Node{cut(2, 1, 399), {Fact: 0}, cut(2, 1, 400), cut(2, 0, 0), {Fact: -2}, {Fact: 0}, {Fact: 0}}
	check := func(what string, answer api.Answer, tree []api.Node, want api.Errno) {
		t.Helper()
		s := api.Settled{Answer: answer, Tree: tree}
		if e := walk.CheckSide(example(), 1710, at(2, 390), s); e != want {
			t.Errorf("P6.8: CheckSide of %s is %d, not %d", what, e, want)
		}
	}
	check("a tree", api.Yes, right, api.OK)
	for _, answer := range []api.Answer{api.No, api.Open, 0, 4, -1} {
		check("a tree of another answer", answer, right, api.ErrProof)
		check("no tree", answer, nil, api.ErrProof)
	}
	check("no tree", api.Yes, nil, api.ErrProof)
	for i := range right {
		check("the beginning of a tree", api.Yes, right[:i], api.ErrProof)
	}
	check("a leaf too many", api.Yes, append(slices.Clone(right), api.Node{Fact: -2}), api.ErrProof)
	check("a leaf where the ring is not clear", api.Yes, []api.Node{{Fact: -2}}, api.ErrProof)
	for i, n := range []struct {
		at int
		n  api.Node
		e  api.Errno
	}{
		{0, cut(3, 1, 399), api.ErrProof}, {0, cut(-1, 1, 399), api.ErrProof}, {0, cut(2, 2, 399), api.ErrProof}, {0, cut(2, -1, 399), api.ErrProof},
		{0, cut(2, 1, 394), api.ErrProof}, {0, cut(2, 1, 405), api.ErrProof}, {0, cut(2, 1, 395), api.ErrProof}, {0, cut(2, 1, 398), api.ErrProof}, {0, cut(0, 0, 0), api.ErrProof},
		{1, api.Node{Fact: 1}, api.ErrProof}, {1, api.Node{Fact: 2}, api.ErrProof}, {1, api.Node{Fact: -3}, api.ErrProof}, {1, api.Node{Fact: -2}, api.ErrProof},
		{1, api.Node{At: 1}, api.ErrProof}, {1, api.Node{Point: 1}, api.ErrProof}, {1, api.Node{Axis: 1}, api.ErrProof},
		{3, cut(2, 0, 1), api.OK}, {3, cut(2, 0, 2), api.OK}, {3, cut(2, 0, 3), api.ErrProof}, {3, cut(2, 1, 400), api.ErrProof}, {2, cut(2, 1, 401), api.OK}, {2, cut(2, 1, 404), api.OK}, {2, cut(2, 1, 399), api.ErrProof},
		{4, api.Node{Fact: -2, At: 1}, api.ErrProof}, {4, api.Node{Fact: -2, Point: 1}, api.ErrProof}, {4, api.Node{Fact: -2, Axis: 1}, api.ErrProof}, {4, api.Node{Fact: 0}, api.ErrProof},
		{5, api.Node{Fact: -2}, api.ErrProof}, {6, api.Node{Fact: -2}, api.ErrProof}, {6, api.Node{Fact: 0}, api.OK},
	} {
		tree := slices.Clone(right)
		tree[n.at] = n.n
		check("a tree with another node, "+string(rune('a'+i)), api.Yes, tree, n.e)
	}
	ends := [][]api.Point{path(0, 0, 300, 0, 0, 400)}
	for _, x := range []struct {
		ends [][]api.Point
		e    api.Errno
	}{{ends, api.ErrProof}, {[][]api.Point{}, api.OK}, {[][]api.Point{nil}, api.ErrProof}} {
		if e := walk.CheckSide(example(), 1710, at(2, 390), api.Settled{Answer: api.Yes, Tree: right, Ends: x.ends}); e != x.e {
			t.Errorf("P6.8: CheckSide of a tree with the ends %v is %d, not %d", x.ends, e, x.e)
		}
	}
	leaf := []api.Node{{Fact: -2}}
	for answer, want := range map[api.Answer]api.Errno{api.No: api.OK, api.Yes: api.ErrProof, api.Open: api.ErrProof} {
		if e := walk.CheckSide(example(), 1710, at(-1, 5), api.Settled{Answer: answer, Tree: leaf}); e != want {
			t.Errorf("P6.8: CheckSide of a leaf outside, and %d, is %d, not %d", answer, e, want)
		}
	}
}

func TestCheckSideOfWrongEnds(t *testing.T) {
	only := path(0, 0, 300, 0, 0, 400)
	for i, x := range []struct {
		at   api.Point
		ends [][]api.Point
		e    api.Errno
	}{
		{at(0, 200), [][]api.Point{only, only}, api.OK},
		{at(0, 200), [][]api.Point{only}, api.ErrProof},
		{at(0, 200), nil, api.ErrProof},
		{at(0, 200), [][]api.Point{only, only, only}, api.ErrProof},
		{at(0, 200), [][]api.Point{only, path(0, 0, 300, 0, 1, 400)}, api.ErrProof},
		{at(0, 200), [][]api.Point{path(0, 0, 300, 0, 1, 400), only}, api.ErrProof},
		{at(0, 200), [][]api.Point{only[:2], only}, api.ErrProof},
		{at(0, 200), [][]api.Point{only, append(slices.Clone(only), at(0, 0))}, api.ErrProof},
		{at(0, 200), [][]api.Point{nil, nil}, api.ErrProof},
		{at(1, 200), [][]api.Point{only, only}, api.ErrProof},
		{at(-1, 200), [][]api.Point{only, only}, api.ErrProof},
	} {
		if e := walk.CheckSide(example(), 1710, x.at, api.Settled{Answer: api.Open, Ends: x.ends}); e != x.e {
			t.Errorf("P6.8: %d: CheckSide of ends is %d, not %d", i, e, x.e)
		}
	}
	settled := api.Settled{Answer: api.Open, Ends: [][]api.Point{only, only}, Tree: []api.Node{{Fact: -2}}}
	if e := walk.CheckSide(example(), 1710, at(0, 200), settled); e != api.ErrProof {
		t.Errorf("P6.8: CheckSide of ends with a tree is %d", e)
	}
	east, west := path(0, 0, 300, 0, 4, 395), path(0, 0, 300, 0, 0, 395)
	for _, x := range []struct {
		ends [][]api.Point
		e    api.Errno
	}{{[][]api.Point{east, west}, api.OK}, {[][]api.Point{west, east}, api.ErrProof}, {[][]api.Point{west, west}, api.ErrProof}, {[][]api.Point{east, east}, api.ErrProof}} {
		if e := walk.CheckSide(example(), 1709, at(1, 200), api.Settled{Answer: api.Open, Ends: x.ends}); e != x.e {
			t.Errorf("P6.8: CheckSide of the ends %v is %d, not %d", x.ends, e, x.e)
		}
	}
}

func TestTreesThatAreTooLarge(t *testing.T) {
	p := parish([]api.Marked{standing(1, box(0, 511, 0, 511)), standing(2, one(at(1000, 0))), standing(3, one(at(1000, 1000)))})
	var tree []api.Node
	var grow func(b api.Box)
	grow = func(b api.Box) {
		if len(tree) > 2*nodes || b.X.Lo == b.X.Hi && b.Y.Lo == b.Y.Hi {
			tree = append(tree, api.Node{Fact: -2})
			return
		}
		low, high := b, b
		n := api.Node{Fact: -1}
		if b.X.Hi-b.X.Lo > b.Y.Hi-b.Y.Lo {
			n.At = (b.X.Lo + b.X.Hi) / 2
			low.X.Hi, high.X.Lo = n.At, n.At+1
		} else {
			n.Axis, n.At = 1, (b.Y.Lo+b.Y.Hi)/2
			low.Y.Hi, high.Y.Lo = n.At, n.At+1
		}
		tree = append(tree, n)
		grow(low)
		grow(high)
	}
	grow(box(0, 511, 0, 511))
	if len(tree) <= nodes {
		t.Fatalf("P6.8: the tree has only %d nodes", len(tree))
	}
	if e := walk.CheckSide(p, 1710, at(-1, 0), api.Settled{Answer: api.No, Tree: tree}); e != api.ErrProof {
		t.Errorf("P6.8: CheckSide of a tree that is too large is %d", e)
	}
	tree = nil
	grow(box(0, 255, 0, 511))
	p.Stones[0] = standing(1, box(0, 255, 0, 511))
	if e := walk.CheckSide(p, 1710, at(-1, 0), api.Settled{Answer: api.No, Tree: tree}); e != api.OK || len(tree) != nodes-1 {
		t.Errorf("P6.8: CheckSide of a tree with %d nodes is %d", len(tree), e)
	}
}

// narrow returns a parish with as many choices as are allowed, of which a walk leaves those with a stone to the right of the line from the stone 1 to the stone 2.
func narrow() api.Parish {
	p := parish([]api.Marked{standing(1, box(0, 0, 0, 255)), standing(2, box(1000, 1000, 0, 255)), standing(3, one(at(500, 1000))), standing(4, one(at(500, 128)))},
		api.Walk{ID: 1, Year: 1710, Offsets: []api.Offset{offset(1, 2, 4, false)}})
	p.Ring = []int{1, 2, 3}
	return p
}

// winding returns a parish in which many cuts, each of which takes off little, lead to the solutions: the stones 2 and 3 drive each other to the west.
func winding() api.Parish {
	p := parish([]api.Marked{
		standing(1, one(at(0, 0))), standing(2, box(0, 1000, 100, 100)), standing(3, box(0, 1000, 101, 101)), standing(4, one(at(50, 50))),
	}, api.Walk{ID: 1, Year: 1710, Offsets: []api.Offset{offset(1, 2, 3, true), offset(4, 2, 3, false)}})
	p.Ring = []int{1, 2, 3}
	return p
}

// TestTreesThatCutOtherStones takes a tree that shows that the stone 1 does not lie at (0, 0), where the point is a corner: then the stone 5, which is not one of the ring, would be 5 links from (0, 0) and from (1, 0), as no point is; that is not seen before its own box is cut.
func TestTreesThatCutOtherStones(t *testing.T) {
	p := parish([]api.Marked{
		standing(1, box(0, 1, 0, 0)), standing(2, one(at(50, -50))), standing(3, one(at(50, 50))), standing(4, one(at(1, 0))), standing(5, box(-5, 6, -5, 5)),
	}, api.Walk{ID: 1, Year: 1710, Legs: []api.Leg{leg(1, 5, -1, 1710, 5, 0), leg(4, 5, -1, 1710, 5, 0)}})
	p.Ring = []int{1, 2, 3}
	for point, want := range map[api.Point]api.Answer{at(0, 0): api.No, at(1, 0): api.Open, at(2, 0): api.Yes} {
		s, e := walk.Side(p, 1710, point)
		if s.Answer != want || e != api.OK {
			t.Errorf("P6.8: Side of %v is %d, %d, not %d", point, s.Answer, e, want)
		}
		checkSettled(t, p, 1710, point, s)
	}
}

func TestLargeTrees(t *testing.T) {
	for _, x := range []struct {
		p    api.Parish
		at   api.Point
		want api.Answer
	}{
		{narrow(), at(500, 128), api.No}, {narrow(), at(499, 127), api.No}, {narrow(), at(500, 256), api.Yes}, {narrow(), at(500, 131), api.Open},
		{winding(), at(-1, 50), api.No}, {winding(), at(1000, 101), api.No}, {winding(), at(500, 100), api.No},
	} {
		s, e := walk.Side(x.p, 1710, x.at)
		if s.Answer != x.want || e != api.OK {
			t.Errorf("P6.8: Side of %v is %d, %d, not %d", x.at, s.Answer, e, x.want)
		}
		checkSettled(t, x.p, 1710, x.at, s)
	}
}

func TestArea(t *testing.T) {
	for _, x := range []struct {
		p    api.Parish
		year int
		want api.Span
	}{{example(), 1710, span(120000, 120000)}, {example(), 1709, span(300*395, 300*405)}, {crossed(), 1710, span(0, 0)}, {rich(), 1700, span(29*40*2, 31*41*2)}} {
		s, e := walk.Area(x.p, x.year)
		ring := ringOf(x.p, x.year)
		if want := slowArea(choicesThat(slowJoint(x.p, []int{x.year})), ring); s != want || e != api.OK {
			t.Errorf("P6.9: Area is %v, %d, not %v", s, e, want)
		}
		if s.Lo < x.want.Lo || s.Hi > x.want.Hi {
			t.Errorf("P6.9: Area is %v, not within %v", s, x.want)
		}
	}
	back := example()
	slices.Reverse(back.Ring)
	if s, e := walk.Area(back, 1710); s != span(120000, 120000) || e != api.OK {
		t.Errorf("P6.9: Area of the ring turned round is %v, %d", s, e)
	}
}

// choicesThat returns the solutions of a problem, by trying all choices.
func choicesThat(q api.Problem) [][]api.Point {
	return slices.DeleteFunc(choices(q.Boxes), func(l []api.Point) bool {
		return slices.ContainsFunc(q.Facts, func(f api.Fact) bool { return !search.Holds(f, l) })
	})
}

// slowArea returns the least and the greatest area of bounds, by triangles from the origin.
func slowArea(solutions [][]api.Point, ring []int) api.Span {
	var s api.Span
	for i, l := range solutions {
		sum := 0
		corners := along(ring, l)
		for k, a := range corners {
			b := corners[(k+1)%len(corners)]
			sum += a.X*b.Y - a.Y*b.X
		}
		sum = max(sum, -sum)
		if i == 0 {
			s = span(sum, sum)
		}
		s = span(min(s.Lo, sum), max(s.Hi, sum))
	}
	return s
}

func TestSidesOfRandomParishes(t *testing.T) {
	r := newRand(6, 8)
	var answers [4]int
	var errors [10]int
	cuts, facts := 0, 0
	for i := range 450 {
		p, fields := randomBounds(r)
		if i%3 == 0 {
			p = spoilt(r, p)
		}
		q, ring := slowJoint(p, []int{1710}), ringOf(p, 1710)
		solutions := choicesThat(q)
		for _, point := range fields {
			s, e := walk.Side(p, 1710, point)
			errors[e]++
			if e != api.OK {
				if e != api.ErrClash || len(solutions) > 0 || !isNothing(s) {
					t.Fatalf("P6.8: the error of Side of %v in %v is %d", point, p, e)
				}
				continue
			}
			if want := slowSide(solutions, ring, point); s.Answer != want {
				t.Fatalf("P6.8: Side of %v in %v is %d, not %d", point, p, s.Answer, want)
			}
			checkSettled(t, p, 1710, point, s)
			answers[s.Answer]++
			if len(s.Tree) > 1 {
				cuts++
			}
			if slices.ContainsFunc(s.Tree, func(n api.Node) bool { return n.Fact >= 0 }) {
				facts++
			}
			checkMutants(t, r, p, 1710, point, s, solutions, ring)
		}
		if a, e := walk.Area(p, 1710); len(solutions) > 0 && (a != slowArea(solutions, ring) || e != api.OK) {
			t.Fatalf("P6.9: Area of %v is %v, %d, not %v", p, a, e, slowArea(solutions, ring))
		}
	}
	if slices.Min(answers[1:]) < 100 || errors[api.ErrClash] < 20 || cuts < 100 || facts < 50 {
		t.Errorf("P6.8: these parishes test little: answers %v, errors %v, trees with cuts %d, with facts %d", answers, errors, cuts, facts)
	}
}

// checkMutants changes a proof here and there: what CheckSide accepts must be right.
func checkMutants(t *testing.T, r *rand.Rand, p api.Parish, year int, point api.Point, s api.Settled, solutions [][]api.Point, ring []int) {
	t.Helper()
	q := slowJoint(p, []int{year})
	for range 10 {
		x := api.Settled{Answer: s.Answer, Tree: slices.Clone(s.Tree), Ends: slices.Clone(s.Ends)}
		switch r.IntN(4) {
		case 0:
			x.Answer = api.Answer(r.IntN(5))
		case 1:
			x.Answer = api.Open
			x.Tree = nil
			x.Ends = [][]api.Point{solutions[r.IntN(len(solutions))], solutions[r.IntN(len(solutions))]}
		case 2:
			x.Tree = append(x.Tree, api.Node{Fact: r.IntN(5) - 2})
		}
		if len(x.Tree) > 0 {
			n := &x.Tree[r.IntN(len(x.Tree))]
			*[]*int{&n.Fact, &n.Point, &n.Axis, &n.At}[r.IntN(4)] += r.IntN(3) - 1
		}
		is := isSettled(q, ring, point, x)
		e := walk.CheckSide(p, year, point, x)
		if is != (e == api.OK) || !is && e != api.ErrProof {
			t.Fatalf("P6.8: CheckSide of %v in %d of %v, and %v, is %d", point, year, p, x, e)
		}
		if want := slowSide(solutions, ring, point); is && x.Answer != want {
			t.Fatalf("P6.15: CheckSide accepts %d for %v in %d of %v, but it is %d", x.Answer, point, year, p, want)
		}
	}
}
