package plane_test

import (
	"math/rand/v2"
	"testing"

	"boundstone/api"
	"boundstone/plane"
)

func TestOn(t *testing.T) {
	points := grid(-2, 5)
	for _, s := range lines(grid(-1, 3)) {
		for _, p := range points {
			if got, want := plane.On(s, p), isOn(s, p); got != want {
				t.Fatalf("P2.3: On of %v, %v is %v", s, p, got)
			}
		}
	}
}

func TestOnOfLongSegments(t *testing.T) {
	for _, x := range []struct {
		s    api.Segment
		p    api.Point
		want bool
	}{
		{line(-limit, -limit, limit, limit), at(0, 0), true},
		{line(-limit, -limit, limit, limit), at(limit, limit), true},
		{line(-limit, -limit, limit, limit), at(0, 1), false},
		{line(-limit, -limit, limit, limit-1), at(-limit, -limit), true},
		{line(-limit, -limit, limit, limit-1), at(1-limit, 1-limit), false},
		{line(-limit, -limit, limit, limit-1), at(limit-1, limit-2), false},
		{line(-limit, limit, limit, limit), at(17, limit), true},
		{line(limit, limit, limit, -limit), at(limit, -17), true},
		{line(0, 0, 700000, 350000), at(1000000, 500000), false},
	} {
		if got := plane.On(x.s, x.p); got != x.want {
			t.Errorf("P2.3: On of %v, %v is %v", x.s, x.p, got)
		}
	}
}

func TestOnOfWrongSegments(t *testing.T) {
	if s := line(3, 4, 3, 4); plane.On(s, at(3, 4)) {
		t.Error("P2.3: a segment of one point has it")
	}
	for _, p := range wrongPoints() {
		for _, s := range []api.Segment{{A: p, B: at(0, 0)}, {A: at(0, 0), B: p}, {A: p, B: p}} {
			for _, q := range []api.Point{at(0, 0), p} {
				if plane.On(s, q) {
					t.Errorf("P2.3: On of %v, %v", s, q)
				}
			}
		}
		for _, s := range []api.Segment{line(-limit, 0, limit, 0), line(0, -limit, 0, limit), line(-limit, -limit, limit, limit), line(0, 0, 1, -1)} {
			if plane.On(s, p) {
				t.Errorf("P2.3: On of %v, %v", s, p)
			}
		}
	}
}

func TestMeeting(t *testing.T) {
	all := lines(grid(0, 3))
	seen := map[int]int{}
	for _, s := range all {
		for _, u := range all {
			got, want := plane.Meeting(s, u), meeting(s, u)
			if got != want {
				t.Fatalf("P2.3: Meeting of %v and %v is %d, not %d", s, u, got, want)
			}
			seen[got]++
		}
	}
	if len(seen) != 4 {
		t.Errorf("P2.3: these segments test little: %v", seen)
	}
}

func TestMeetingOfExamples(t *testing.T) {
	s := line(0, 0, 4, 0)
	for _, x := range []struct {
		name string
		s, t api.Segment
		want int
	}{
		{"a cross", s, line(2, -1, 2, 1), api.MtCross},
		{"a common end", s, line(4, 0, 4, 3), api.MtTouch},
		{"an end in the middle", s, line(2, 0, 3, 3), api.MtTouch},
		{"an overlap", s, line(2, 0, 9, 0), api.MtOverlap},
		{"a part", s, line(1, 0, 2, 0), api.MtOverlap},
		{"itself", s, s, api.MtOverlap},
		{"itself turned round", s, line(4, 0, 0, 0), api.MtOverlap},
		{"a common end of one line", s, line(4, 0, 9, 0), api.MtTouch},
		{"one line", s, line(5, 0, 9, 0), api.MtApart},
		{"parallels", s, line(0, 1, 4, 1), api.MtApart},
		{"a cross between integers", line(0, 0, 1, 1), line(0, 1, 1, 0), api.MtCross},
		{"an overlap between integers", line(0, 0, 1, 1), line(0, 0, 1, 1), api.MtOverlap},
		{"slanting, of one line", line(0, 0, 2, 4), line(3, 6, 4, 8), api.MtApart},
		{"slanting, a common end", line(0, 0, 2, -4), line(3, -6, 2, -4), api.MtTouch},
		{"slanting, an overlap", line(0, 0, 2, -4), line(3, -6, 1, -2), api.MtOverlap},
		{"the line goes past", line(0, 0, 2, 0), line(3, -1, 3, 1), api.MtApart},
		{"diagonals", line(-limit, -limit, limit, limit), line(-limit, limit, limit, -limit), api.MtCross},
		{"sides", line(-limit, -limit, limit, -limit), line(limit, -limit, limit, limit), api.MtTouch},
		{"almost parallel", line(-limit, -limit, limit, limit), line(-limit, -limit, limit, limit-1), api.MtTouch},
		{"a cross of almost parallels", line(-limit, -limit, limit, limit), line(-limit, 1-limit, limit, limit-1), api.MtCross},
		{"almost touching", line(-limit, -limit, limit, limit-1), line(1-limit, 1-limit, -limit, limit), api.MtApart},
		{"just crossing", line(-limit, -limit, limit, limit-1), line(1-limit, 1-limit, limit, -limit), api.MtCross},
		{"overlap of a long line", line(-limit, -limit, limit, limit), line(0, 0, 1, 1), api.MtOverlap},
	} {
		if got := plane.Meeting(x.s, x.t); got != x.want {
			t.Errorf("P2.3: %s: Meeting of %v and %v is %d, not %d", x.name, x.s, x.t, got, x.want)
		}
	}
}

func TestMeetingOfWrongSegments(t *testing.T) {
	wrong := []api.Segment{line(2, 0, 2, 0), line(0, 0, 0, 0), line(0, 1, 0, 1)}
	for _, p := range wrongPoints() {
		wrong = append(wrong, api.Segment{A: p, B: at(0, 0)}, api.Segment{A: at(0, 0), B: p}, api.Segment{A: p, B: p})
	}
	for _, s := range wrong {
		for _, u := range []api.Segment{line(-4, 0, 4, 0), line(0, -4, 0, 4), line(-3, -3, 3, 3), line(0, 0, 1, 0), s} {
			if plane.Meeting(s, u) != api.MtApart || plane.Meeting(u, s) != api.MtApart {
				t.Errorf("P2.3: Meeting of %v and %v is %d and %d", s, u, plane.Meeting(s, u), plane.Meeting(u, s))
			}
		}
	}
}

func TestMeetingConsequences(t *testing.T) {
	r := rand.New(rand.NewPCG(2, 14))
	seen := map[int]int{}
	oneSide := func(s, u api.Segment) bool {
		return plane.Turn(s.A, s.B, u.A)*plane.Turn(s.A, s.B, u.B) > 0
	}
	for range 20000 {
		size := []int{1, 2, 6, limit}[r.IntN(4)]
		s := api.Segment{A: randomPoint(r, -size, size), B: randomPoint(r, -size, size)}
		u := api.Segment{A: randomPoint(r, -size, size), B: randomPoint(r, -size, size)}
		if s.A == s.B || u.A == u.B {
			continue
		}
		want := plane.Meeting(s, u)
		seen[want]++
		back, forth := api.Segment{A: s.B, B: s.A}, api.Segment{A: u.B, B: u.A}
		for _, got := range []int{plane.Meeting(u, s), plane.Meeting(back, u), plane.Meeting(s, forth), plane.Meeting(forth, back)} {
			if got != want {
				t.Fatalf("P2.14: Meeting of %v and %v is %d, in another order %d", s, u, want, got)
			}
		}
		if want != api.MtApart && (oneSide(s, u) || oneSide(u, s)) {
			t.Fatalf("P2.14: Meeting of %v and %v is %d, but all ends are on one side", s, u, want)
		}
		if want != meeting(s, u) {
			t.Fatalf("P2.3: Meeting of %v and %v is %d, not %d", s, u, want, meeting(s, u))
		}
	}
	for _, kind := range []int{api.MtApart, api.MtTouch, api.MtCross, api.MtOverlap} {
		if seen[kind] < 100 {
			t.Errorf("P2.14: these segments test little: %v", seen)
		}
	}
}
