package stone_test

import (
	"slices"
	"testing"

	"boundstone/api"
	"boundstone/stone"
)

func TestWhatIsTrueIsTold(t *testing.T) {
	r := newRand(5, 111)
	for i := range 2000 {
		c := small
		if i%2 == 0 {
			c = large
		}
		l, x := randomLife(r, c)
		is, e := stone.Fits(l, x.Course)
		boxes, f := stone.Places(l, x.Course)
		heights, g := stone.Heights(l, x.Course)
		letters, h := stone.Letters(l, x.Course)
		if !is || e != api.OK || f != api.OK || g != api.OK || h != api.OK {
			t.Fatalf("P5.11: the errors of the true course %v of %v are %v, %d, %d, %d, %d", x.Course, l, is, e, f, g, h)
		}
		for k, p := range x.Points {
			high := heights[k]
			if coverOf(boxes[k], box(p.X, p.X, p.Y, p.Y)) != boxes[k] || x.Heights[k] < high.Lo || x.Heights[k] > high.Hi || !stone.Reads(x.Letters[k], letters[k]) {
				t.Fatalf("P5.11: at the sight %d of %v the stone was %v, %q, %d, but is told as %v, %q, %v", k, l, p, x.Letters[k], x.Heights[k], boxes[k], letters[k], high)
			}
		}
	}
}

func TestMoreChanges(t *testing.T) {
	r := newRand(5, 12)
	more := 0
	for i := range 500 {
		c := small
		if i%2 == 0 {
			c = large
			c.sights = 5
		}
		l, x := randomLife(r, c)
		l.Notes = nil
		if i%3 == 0 {
			l = spoilt(r, l, c)
		}
		for _, course := range append(coursesOf(l), x.Course) {
			if is, _ := stone.Fits(l, course); !is {
				continue
			}
			for k := range course {
				other := slices.Clone(course)
				if other[k] != same {
					continue
				}
				other[k] = moved
				more++
				if is, e := stone.Fits(l, other); !is || e != api.OK {
					t.Fatalf("P5.12: the life %v can have had %v, but not %v", l, course, other)
				}
			}
		}
	}
	if more < 1000 {
		t.Errorf("P5.12: these lives test little: %d", more)
	}
}

// fewest returns how many changes a life needs; 9 if it is impossible.
func fewest(l api.Life) int {
	course, e := stone.Least(l)
	if e != api.OK {
		return 9
	}
	return changesOf(course)
}

func TestLessKnown(t *testing.T) {
	r := newRand(5, 14)
	fewer := 0
	for i := range 1000 {
		c := small
		if i%10 == 0 {
			c = large
		}
		l, _ := randomLife(r, c)
		l = spoilt(r, l, c)
		few := fewest(l)
		for _, n := range l.Notes {
			rest := fewest(less(l, n.ID))
			if rest > few {
				t.Fatalf("P5.14: without the note %d %v needs %d changes, not %d", n.ID, l, rest, few)
			}
			if rest < few {
				fewer++
			}
		}
		l.Notes = nil
		few = fewest(l)
		last := len(l.Sights) - 1
		if last == 0 {
			continue
		}
		for _, k := range []int{0, last} {
			rest := fewest(less(l, l.Sights[k].ID))
			if rest > few {
				t.Fatalf("P5.14: without the sight %d %v needs %d changes, not %d", k, l, rest, few)
			}
			if rest < few {
				fewer++
			}
		}
	}
	if fewer < 200 {
		t.Errorf("P5.14: these lives test little: %d", fewer)
	}
}
