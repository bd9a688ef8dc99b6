package plane_test

import (
	"math"
	"math/rand/v2"
	"testing"

	"boundstone/api"
	"boundstone/plane"
)

func TestValid(t *testing.T) {
	good := []int{0, 1, -1, limit, -limit, limit - 1, 1 - limit}
	for _, x := range good {
		for _, y := range good {
			if !plane.Valid(at(x, y)) {
				t.Errorf("P2.1: (%d %d) is not valid", x, y)
			}
		}
	}
	for _, p := range wrongPoints() {
		if plane.Valid(p) {
			t.Errorf("P2.1: %v is valid", p)
		}
	}
}

func TestTurn(t *testing.T) {
	for _, x := range []struct {
		l    []api.Point
		want int
	}{
		{path(0, 0, 4, 0, 2, 1), 1},
		{path(0, 0, 4, 0, 2, -1), -1},
		{path(0, 0, 4, 0, 8, 0), 0},
		{path(0, 0, 4, 0, -3, 0), 0},
		{path(2, 3, 2, 3, 7, 7), 0},
		{path(2, 3, 7, 7, 7, 7), 0},
		{path(2, 3, 7, 7, 2, 3), 0},
		{path(1, 1, 1, 1, 1, 1), 0},
		{path(-limit, -limit, limit, -limit, limit, limit), 1},
		{path(-limit, -limit, limit, limit, limit, -limit), -1},
		{path(-limit, -limit, limit, limit, 0, 0), 0},
		{path(-limit, -limit, limit, limit-1, 1-limit, 1-limit), 1},
		{path(-limit, -limit, limit, limit-1, limit-1, limit-2), -1},
		{path(limit, limit, 1-limit, -limit, limit-2, limit-2), -1},
	} {
		if got := plane.Turn(x.l[0], x.l[1], x.l[2]); got != x.want {
			t.Errorf("P2.1: Turn of %v is %d, not %d", x.l, got, x.want)
		}
	}
	points := grid(-1, 2)
	for _, a := range points {
		for _, b := range points {
			for _, c := range points {
				if got, want := plane.Turn(a, b, c), sign(area(a, b, c)); got != want {
					t.Errorf("P2.1: Turn of %v, %v, %v is %d, not %d", a, b, c, got, want)
				}
			}
		}
	}
}

func TestTurnOfWrongPoints(t *testing.T) {
	a, b := at(1, 2), at(5, -7)
	for _, p := range wrongPoints() {
		for _, l := range [][]api.Point{{p, a, b}, {p, b, a}, {a, p, b}, {b, p, a}, {a, b, p}, {b, a, p}, {p, p, a}, {a, p, p}, {p, p, p}} {
			if got := plane.Turn(l[0], l[1], l[2]); got != 0 {
				t.Errorf("P2.1: Turn of %v is %d", l, got)
			}
		}
	}
}

func TestDist(t *testing.T) {
	for _, x := range []struct {
		l    []api.Point
		want int
	}{
		{path(0, 0, 3, 4), 25},
		{path(-2, 5, 1, 5), 9},
		{path(-2, 5, -2, -5), 100},
		{path(7, -7, 7, -7), 0},
		{path(-limit, -limit, limit, limit), 1 << 43},
		{path(-limit, limit, limit, limit), 1 << 42},
		{path(limit, -limit, limit, limit-1), 1<<42 - 1<<22 + 1},
		{path(0, 0, 46341, 0), 2147488281},
		{path(0, 0, 0, -65537), 4295098369},
	} {
		if got := plane.Dist(x.l[0], x.l[1]); got != x.want {
			t.Errorf("P2.1: Dist of %v is %d, not %d", x.l, got, x.want)
		}
		if got := plane.Dist(x.l[1], x.l[0]); got != x.want {
			t.Errorf("P2.1: Dist of %v turned round is %d, not %d", x.l, got, x.want)
		}
	}
	for _, p := range wrongPoints() {
		for _, l := range [][]api.Point{{p, at(3, 4)}, {at(3, 4), p}, {p, p}} {
			if got := plane.Dist(l[0], l[1]); got != -1 {
				t.Errorf("P2.1: Dist of %v is %d", l, got)
			}
		}
	}
}

func TestRoot(t *testing.T) {
	for n, want := range map[int]int{
		0: 0, 1: 1, 2: 1, 3: 1, 4: 2, 26: 5, -1: 0, -4: 0, -1 << 62: 0, math.MinInt64: 0, 1 - math.MaxInt64: 0,
		1 << 44: 1 << 22, 1<<44 - 1: 1<<22 - 1, 1 << 62: 1 << 31, 1<<62 - 1: 1<<31 - 1,
		math.MaxInt64: 3037000499, 3037000499 * 3037000499: 3037000499, 3037000499*3037000499 - 1: 3037000498,
	} {
		if got := plane.Root(n); got != want {
			t.Errorf("P2.2: Root(%d) is %d, not %d", n, got, want)
		}
	}
	roots := func(from, to int) {
		for k := from; k <= to; k++ {
			for n, want := range map[int]int{k*k - 1: k - 1, k * k: k, k*k + 1: k, k*k + 2*k: k} {
				if got := plane.Root(n); got != want {
					t.Fatalf("P2.2: Root(%d) is %d, not %d", n, got, want)
				}
			}
		}
	}
	roots(1, 3000)
	for bit := 12; bit <= 31; bit++ {
		roots(1<<bit-20, 1<<bit+20)
	}
	roots(3037000498-1000, 3037000498)
}

func TestTurnConsequences(t *testing.T) {
	r := rand.New(rand.NewPCG(2, 13))
	seen := map[int]int{}
	for range 20000 {
		size := []int{3, 10, 1000, limit / 2}[r.IntN(4)]
		a, b, c := randomPoint(r, -size, size), randomPoint(r, -size, size), randomPoint(r, -size, size)
		want := plane.Turn(a, b, c)
		seen[want]++
		if plane.Turn(b, c, a) != want || plane.Turn(c, a, b) != want {
			t.Fatalf("P2.13: Turn of %v, %v, %v changes in a circle", a, b, c)
		}
		if plane.Turn(b, a, c) != -want || plane.Turn(a, c, b) != -want || plane.Turn(c, b, a) != -want {
			t.Fatalf("P2.13: Turn of %v, %v, %v does not change its sign", a, b, c)
		}
		d := randomPoint(r, -limit/2, limit/2)
		moved := func(p api.Point) api.Point { return at(p.X+d.X, p.Y+d.Y) }
		if plane.Turn(moved(a), moved(b), moved(c)) != want {
			t.Fatalf("P2.13: Turn of %v, %v, %v changes if %v is added", a, b, c, d)
		}
		if want != sign(area(a, b, c)) {
			t.Fatalf("P2.1: Turn of %v, %v, %v is %d", a, b, c, want)
		}
	}
	if seen[-1] < 1000 || seen[0] < 100 || seen[1] < 1000 {
		t.Errorf("P2.13: these points test little: %v", seen)
	}
}
