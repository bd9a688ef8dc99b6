package search

import (
	"slices"
	"sort"

	"boundstone/api"
)

// ground is a problem that is made ready to be searched.
type ground struct {
	rules  []rule
	about  [][]int   // for each point, the indices of the facts that name it
	boxes  []api.Box // of the problem
	narrow []api.Box // the narrowed boxes, unless the problem is empty
	empty  bool
	parts  [][]int
}

// survey returns the ground of a problem; the error is that of Check.
func survey(p api.Problem) (*ground, api.Errno) {
	if e := Check(p); e != api.OK {
		return nil, e
	}
	g := layOut(p)
	g.narrow = slices.Clone(p.Boxes)
	g.empty = !g.shrink(g.narrow)
	g.parts = g.connected()
	return g, api.OK
}

// tractable returns the ground of a problem; the errors are that of Check, then ErrLimit if the problem is not tractable.
func tractable(p api.Problem) (*ground, api.Errno) {
	g, e := survey(p)
	if e != api.OK {
		return nil, e
	}
	if !g.empty && g.volume() > api.MaxVolume {
		return nil, api.ErrLimit
	}
	return g, api.OK
}

// layOut returns the ground of a problem without what has to be computed from its boxes.
func layOut(p api.Problem) *ground {
	g := &ground{about: make([][]int, len(p.Boxes)), boxes: slices.Clone(p.Boxes)}
	for i, f := range p.Facts {
		g.rules = append(g.rules, ruleOf(f))
		for _, point := range namesOf(f) {
			g.about[point] = append(g.about[point], i)
		}
	}
	return g
}

// namesOf returns the points that a fact names.
func namesOf(f api.Fact) []int {
	if f.Kind == api.FaTurn {
		return []int{f.A, f.B, f.C}
	}
	return []int{f.A, f.B}
}

// failing returns the first fact that fails on boxes.
func (g *ground) failing(boxes []api.Box) (int, bool) {
	for i, r := range g.rules {
		if r.fails(boxes) {
			return i, true
		}
	}
	return 0, false
}

// stuck reports whether a fact that names a point fails on boxes.
func (g *ground) stuck(boxes []api.Box, point int) bool {
	for _, i := range g.about[point] {
		if g.rules[i].fails(boxes) {
			return true
		}
	}
	return false
}

// shrink narrows boxes; it returns false as soon as it is clear that there is nothing left. Only facts that name a point are asked about its strips: another one that fails there fails on strips of its own points as well.
func (g *ground) shrink(boxes []api.Box) bool {
	for moved := true; moved; {
		moved = false
		for point := range boxes {
			for side := range sides {
				wide := g.loose(boxes, point, side)
				if wide == long(spanOf(boxes[point], axisOf(side))) {
					return false
				}
				if wide > 0 {
					_, boxes[point] = strip(boxes[point], side, wide)
					moved = true
				}
			}
		}
	}
	return true
}

// loose returns how many numbers at a side of a point's box come off at once: the most for which one fact fails on the boxes with the points in these numbers alone. It is then the same as if they came off one by one.
func (g *ground) loose(boxes []api.Box, point, side int) int {
	whole := boxes[point]
	wide := 0
	for _, i := range g.about[point] {
		failsFor := func(n int) bool {
			boxes[point], _ = strip(whole, side, n)
			return g.rules[i].fails(boxes)
		}
		most := long(spanOf(whole, axisOf(side)))
		if wide < most && failsFor(wide+1) {
			wide = sort.Search(most, func(n int) bool { return n > wide && !failsFor(n+1) })
		}
	}
	boxes[point] = whole
	return wide
}

// connected returns the parts.
func (g *ground) connected() [][]int {
	var parts [][]int
	seen := make([]bool, len(g.about))
	for point := range seen {
		if seen[point] {
			continue
		}
		part := g.reached(point)
		for _, other := range part {
			seen[other] = true
		}
		parts = append(parts, part)
	}
	return parts
}

// reached returns the points that facts connect with a point, in increasing order.
func (g *ground) reached(point int) []int {
	part := []int{point}
	for k := 0; k < len(part); k++ {
		for other := range g.about {
			if !slices.Contains(part, other) && g.joined(part[k], other) {
				part = append(part, other)
			}
		}
	}
	slices.Sort(part)
	return part
}

// joined reports whether a fact names both of two points.
func (g *ground) joined(one, two int) bool {
	return slices.ContainsFunc(g.about[one], func(i int) bool { return slices.Contains(g.about[two], i) })
}

// free reports whether no fact names the points of a part.
func (g *ground) free(part []int) bool { return len(g.about[part[0]]) == 0 }

// volume returns the greatest volume of a part, or a greater number than MaxVolume if it is greater.
func (g *ground) volume() int {
	most := 0
	for _, part := range g.parts {
		n := 1
		if !g.free(part) {
			n = g.choices(part)
		}
		most = max(most, n)
	}
	return most
}

// choices returns how many choices of points from their narrowed boxes there are, MaxVolume + 1 if there are more.
func (g *ground) choices(part []int) int {
	n := 1
	for _, point := range part {
		n = min(n*size(g.narrow[point]), api.MaxVolume+1)
	}
	return n
}

// Narrow returns the boxes that are left when strips on which a fact fails are cut off again and again.
func Narrow(p api.Problem) ([]api.Box, api.Errno) {
	g, e := survey(p)
	if e != api.OK {
		return nil, e
	}
	if g.empty {
		return nil, api.ErrClash
	}
	return g.narrow, api.OK
}

// Parts returns the parts of a problem: lists of points that facts connect.
func Parts(p api.Problem) ([][]int, api.Errno) {
	if e := Check(p); e != api.OK {
		return nil, e
	}
	return layOut(p).connected(), api.OK
}

// Volume returns how many choices of points a part has, at most, in the narrowed problem.
func Volume(p api.Problem) (int, api.Errno) {
	g, e := survey(p)
	if e != api.OK {
		return 0, e
	}
	if g.empty {
		return 0, api.ErrClash
	}
	return g.volume(), api.OK
}
