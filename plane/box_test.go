package plane_test

import (
	"math"
	"math/rand/v2"
	"testing"

	"boundstone/api"
	"boundstone/plane"
)

// has reports whether a box has a point, as it is written.
func has(b api.Box, p api.Point) bool {
	return b.X.Lo <= p.X && p.X <= b.X.Hi && b.Y.Lo <= p.Y && p.Y <= b.Y.Hi
}

func TestProper(t *testing.T) {
	for _, b := range append(boxes(-1, 2), box(-limit, limit, -limit, limit), box(limit, limit, -limit, -limit), box(-limit, -limit, limit, limit), box(-limit, 0, 0, limit)) {
		if !plane.Proper(b) {
			t.Errorf("P2.9: %v is not proper", b)
		}
	}
	for _, b := range wrongBoxes() {
		if plane.Proper(b) {
			t.Errorf("P2.9: %v is proper", b)
		}
	}
}

func TestHolds(t *testing.T) {
	for _, b := range boxes(-1, 2) {
		for _, p := range grid(-2, 3) {
			if plane.Holds(b, p) != has(b, p) {
				t.Fatalf("P2.9: Holds of %v, %v is not %v", b, p, has(b, p))
			}
		}
	}
	all := box(-limit, limit, -limit, limit)
	for _, p := range path(limit, limit, -limit, limit, 0, -limit, 0, 0) {
		if !plane.Holds(all, p) {
			t.Errorf("P2.9: %v does not have %v", all, p)
		}
	}
	for _, p := range wrongPoints() {
		if plane.Holds(all, p) || plane.Holds(box(0, 0, 0, 0), p) {
			t.Errorf("P2.9: a box has %v", p)
		}
	}
	for _, b := range wrongBoxes() {
		for _, p := range []api.Point{at(0, 0), at(b.X.Lo, b.Y.Lo), at(b.X.Hi, b.Y.Hi), at(b.X.Lo, b.Y.Hi)} {
			if plane.Holds(b, p) {
				t.Errorf("P2.9: %v has %v", b, p)
			}
		}
	}
}

func TestCorners(t *testing.T) {
	for b, want := range map[api.Box][4]api.Point{
		box(1, 2, 3, 5):                     {at(1, 3), at(2, 3), at(2, 5), at(1, 5)},
		box(-4, -4, 0, 1):                   {at(-4, 0), at(-4, 0), at(-4, 1), at(-4, 1)},
		box(7, 7, 8, 8):                     {at(7, 8), at(7, 8), at(7, 8), at(7, 8)},
		box(-limit, limit, 1-limit, limit):  {at(-limit, 1-limit), at(limit, 1-limit), at(limit, limit), at(-limit, limit)},
		box(-limit, limit, -limit, 1-limit): {at(-limit, -limit), at(limit, -limit), at(limit, 1-limit), at(-limit, 1-limit)},
	} {
		if got := plane.Corners(b); got != want {
			t.Errorf("P2.9: Corners of %v is %v, not %v", b, got, want)
		}
	}
	for _, b := range wrongBoxes() {
		if got := plane.Corners(b); got != [4]api.Point{} {
			t.Errorf("P2.9: Corners of %v is %v", b, got)
		}
	}
}

func TestMeetAndCover(t *testing.T) {
	all := boxes(-1, 2)
	for _, a := range all {
		for _, b := range all {
			checkMeet(t, a, b)
			checkCover(t, a, b)
		}
	}
	whole, corner := box(-limit, limit, -limit, limit), box(limit, limit, -limit, -limit)
	if got, is := plane.Meet(whole, corner); got != corner || !is {
		t.Errorf("P2.10: Meet of %v and %v is %v, %v", whole, corner, got, is)
	}
	if got, is := plane.Cover(corner, box(-limit, -limit, limit, limit)); got != whole || !is {
		t.Errorf("P2.10: Cover of two corners is %v, %v", got, is)
	}
	for _, b := range wrongBoxes() {
		for _, l := range [][2]api.Box{{b, box(0, 1, 0, 1)}, {box(0, 1, 0, 1), b}, {b, whole}, {whole, b}, {b, b}} {
			if got, is := plane.Meet(l[0], l[1]); got != (api.Box{}) || is {
				t.Errorf("P2.10: Meet of %v is %v, %v", l, got, is)
			}
			if got, is := plane.Cover(l[0], l[1]); got != (api.Box{}) || is {
				t.Errorf("P2.10: Cover of %v is %v, %v", l, got, is)
			}
		}
	}
}

// checkMeet checks Meet of small boxes, point by point.
func checkMeet(t *testing.T, a, b api.Box) {
	t.Helper()
	got, is := plane.Meet(a, b)
	any := false
	for _, p := range grid(-2, 3) {
		common := has(a, p) && has(b, p)
		any = any || common
		if (is && has(got, p)) != common {
			t.Fatalf("P2.10, P2.18: Meet of %v and %v is %v, %v", a, b, got, is)
		}
	}
	if is != any || !is && got != (api.Box{}) || is && !plane.Proper(got) {
		t.Fatalf("P2.10: Meet of %v and %v is %v, %v", a, b, got, is)
	}
	if other, _ := plane.Meet(b, a); other != got {
		t.Fatalf("P2.18: Meet of %v and %v is %v, turned round %v", a, b, got, other)
	}
}

// checkCover checks that Cover of small boxes has them, and that each of its sides has points of them.
func checkCover(t *testing.T, a, b api.Box) {
	t.Helper()
	got, is := plane.Cover(a, b)
	var sides [4]bool
	for _, p := range append(pointsOf(a), pointsOf(b)...) {
		if !is || !has(got, p) {
			t.Fatalf("P2.10: Cover of %v and %v is %v, %v", a, b, got, is)
		}
		sides[0] = sides[0] || p.X == got.X.Lo
		sides[1] = sides[1] || p.X == got.X.Hi
		sides[2] = sides[2] || p.Y == got.Y.Lo
		sides[3] = sides[3] || p.Y == got.Y.Hi
	}
	if sides != [4]bool{true, true, true, true} {
		t.Fatalf("P2.10: Cover of %v and %v is %v, which is not the least one", a, b, got)
	}
	if other, _ := plane.Cover(b, a); other != got {
		t.Fatalf("P2.18: Cover of %v and %v is %v, turned round %v", a, b, got, other)
	}
}

func TestGrow(t *testing.T) {
	for _, x := range []struct {
		b    api.Box
		by   int
		want api.Box
	}{
		{box(0, 2, 0, 0), 3, box(-3, 5, -3, 3)},
		{box(0, 2, -1, 0), 0, box(0, 2, -1, 0)},
		{box(-7, -7, 9, 9), 1, box(-8, -6, 8, 10)},
		{box(limit, limit, -limit, -limit), 5, box(limit-5, limit, -limit, 5-limit)},
		{box(limit-3, limit-2, 2-limit, 3-limit), 2, box(limit-5, limit, -limit, 5-limit)},
		{box(limit-3, limit-2, 2-limit, 3-limit), 3, box(limit-6, limit, -limit, 6-limit)},
		{box(0, 0, 0, 0), limit - 1, box(1-limit, limit-1, 1-limit, limit-1)},
		{box(0, 0, 0, 0), limit, box(-limit, limit, -limit, limit)},
		{box(0, 0, 0, 0), limit + 1, box(-limit, limit, -limit, limit)},
		{box(limit, limit, -limit, -limit), 2*limit - 1, box(1-limit, limit, -limit, limit-1)},
		{box(limit, limit, -limit, -limit), 2 * limit, box(-limit, limit, -limit, limit)},
		{box(limit, limit, -limit, -limit), 1 << 32, box(-limit, limit, -limit, limit)},
		{box(limit, limit, -limit, -limit), 1 << 62, box(-limit, limit, -limit, limit)},
		{box(3, 4, -5, -4), math.MaxInt64, box(-limit, limit, -limit, limit)},
		{box(-limit, limit, -limit, limit), math.MaxInt64, box(-limit, limit, -limit, limit)},
	} {
		if got, is := plane.Grow(x.b, x.by); got != x.want || !is {
			t.Errorf("P2.10: Grow of %v by %d is %v, %v, not %v", x.b, x.by, got, is, x.want)
		}
	}
	for _, by := range []int{-1, -2, -limit, -1 << 32, math.MinInt64} {
		if got, is := plane.Grow(box(-9, 9, -9, 9), by); got != (api.Box{}) || is {
			t.Errorf("P2.10: Grow by %d is %v, %v", by, got, is)
		}
	}
	for _, b := range wrongBoxes() {
		for _, by := range []int{0, 1, limit, math.MaxInt64, -1} {
			if got, is := plane.Grow(b, by); got != (api.Box{}) || is {
				t.Errorf("P2.10: Grow of %v by %d is %v, %v", b, by, got, is)
			}
		}
	}
}

func TestCutOfExamples(t *testing.T) {
	for _, x := range []struct{ b, low, high api.Box }{
		{box(0, 3, 5, 9), box(0, 3, 5, 7), box(0, 3, 8, 9)},
		{box(5, 9, 0, 3), box(5, 7, 0, 3), box(8, 9, 0, 3)},
		{box(0, 4, 0, 4), box(0, 2, 0, 4), box(3, 4, 0, 4)},
		{box(0, 3, 1, 4), box(0, 1, 1, 4), box(2, 3, 1, 4)},
		{box(0, 1, 0, 0), box(0, 0, 0, 0), box(1, 1, 0, 0)},
		{box(7, 7, 3, 4), box(7, 7, 3, 3), box(7, 7, 4, 4)},
		{box(-3, 0, 0, 0), box(-3, -2, 0, 0), box(-1, 0, 0, 0)},
		{box(0, 1, -4, -1), box(0, 1, -4, -3), box(0, 1, -2, -1)},
		{box(-1, 0, 5, 5), box(-1, -1, 5, 5), box(0, 0, 5, 5)},
		{box(-limit, limit, -limit, limit), box(-limit, 0, -limit, limit), box(1, limit, -limit, limit)},
		{box(-limit, 1-limit, limit-1, limit), box(-limit, -limit, limit-1, limit), box(1-limit, 1-limit, limit-1, limit)},
		{box(limit-1, limit-1, limit-1, limit), box(limit-1, limit-1, limit-1, limit-1), box(limit-1, limit-1, limit, limit)},
	} {
		if low, high, is := plane.Cut(x.b); low != x.low || high != x.high || !is {
			t.Errorf("P2.10: Cut of %v is %v, %v, %v, not %v, %v", x.b, low, high, is, x.low, x.high)
		}
	}
	for _, b := range append(wrongBoxes(), box(0, 0, 0, 0), box(-5, -5, 7, 7), box(limit, limit, -limit, -limit)) {
		if low, high, is := plane.Cut(b); low != (api.Box{}) || high != (api.Box{}) || is {
			t.Errorf("P2.10: Cut of %v is %v, %v, %v", b, low, high, is)
		}
	}
}

func TestCut(t *testing.T) {
	for _, b := range boxes(-3, 2) {
		low, high, is := plane.Cut(b)
		if is != (len(pointsOf(b)) > 1) {
			t.Fatalf("P2.10: Cut of %v is %v", b, is)
		}
		if !is {
			continue
		}
		if !plane.Proper(low) || !plane.Proper(high) {
			t.Fatalf("P2.10: Cut of %v is %v, %v", b, low, high)
		}
		for _, p := range grid(-4, 3) {
			if has(low, p) && has(high, p) || (has(low, p) || has(high, p)) != has(b, p) {
				t.Fatalf("P2.18: %v is not just once in the halves %v, %v of %v", p, low, high, b)
			}
		}
		before, after, whole := low.X, high.X, b.X
		if b.Y.Hi-b.Y.Lo > b.X.Hi-b.X.Lo {
			before, after, whole = low.Y, high.Y, b.Y
		}
		m := int(math.Floor(float64(whole.Lo+whole.Hi) / 2))
		if before != (api.Span{Lo: whole.Lo, Hi: m}) || after != (api.Span{Lo: m + 1, Hi: whole.Hi}) {
			t.Fatalf("P2.10: Cut of %v is %v, %v", b, low, high)
		}
	}
}

func TestBoxConsequences(t *testing.T) {
	r := rand.New(rand.NewPCG(2, 18))
	for range 5000 {
		a, b := randomBox(r, -limit, limit), randomBox(r, -limit, limit)
		low, high, _ := plane.Cut(a)
		meet, is := plane.Meet(a, b)
		for range 4 {
			p := randomPoint(r, -limit, limit)
			if plane.Holds(a, p) != (plane.Holds(low, p) != plane.Holds(high, p)) {
				t.Fatalf("P2.18: %v is not just once in the halves %v, %v of %v", p, low, high, a)
			}
			if (is && plane.Holds(meet, p)) != (plane.Holds(a, p) && plane.Holds(b, p)) {
				t.Fatalf("P2.18: Meet of %v and %v is %v for %v", a, b, meet, p)
			}
		}
		other, _ := plane.Meet(b, a)
		one, _ := plane.Cover(a, b)
		two, _ := plane.Cover(b, a)
		if other != meet || one != two {
			t.Fatalf("P2.18: %v and %v in another order: Meet %v and %v, Cover %v and %v", a, b, meet, other, one, two)
		}
	}
}
