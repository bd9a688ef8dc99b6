package walk_test

import (
	"math"
	"math/rand/v2"
	"slices"

	"boundstone/api"
)

// world is a parish, and what is true of it.
type world struct {
	parish api.Parish
	long   map[int]int             // the length of the chain 1 in each year, in points
	stood  map[api.Stood]api.Point // where each stone stood in each year
	fields []api.Point
}

// scale is how large the things of a world are.
type scale struct {
	coord int // the greatest coordinate
	slack int // by how much a sight can be wrong
	step  int // by how much a stone is moved
}

var (
	tiny  = scale{coord: 6, slack: 1, step: 2}
	small = scale{coord: 40, slack: 1, step: 3}
	large = scale{coord: 60000, slack: 1, step: 2}
)

// worldYears are the years of worlds.
var worldYears = span(1700, 1712)

// randomWorld returns a world in which all that is told is true.
func randomWorld(r *rand.Rand, c scale) world {
	w := world{long: map[int]int{}, stood: map[api.Stood]api.Point{}}
	w.makeChain(r)
	w.parish.Changes = r.IntN(3)
	numbers := r.Perm(9)[:3+r.IntN(3)]
	for _, n := range numbers {
		w.setStone(r, n+1, c)
	}
	ring := slices.Clone(numbers)
	if r.IntN(3) == 0 {
		ring = ring[:3]
	}
	r.Shuffle(len(ring), func(i, j int) { ring[i], ring[j] = ring[j], ring[i] })
	for _, n := range ring {
		w.parish.Ring = append(w.parish.Ring, n+1)
	}
	ids := r.Perm(30)
	for i := range r.IntN(4) {
		w.goRound(r, ids[i]+1)
	}
	for range 3 {
		w.fields = append(w.fields, at(r.IntN(2*c.coord+1)-c.coord, r.IntN(2*c.coord+1)-c.coord))
	}
	return w
}

// makeChain makes the chain 1, and proves it now and then.
func (w *world) makeChain(r *rand.Rand) {
	wear := r.IntN(8)
	p := 9990 + r.IntN(21)
	works := &w.parish.Works
	works.Chains = []api.Chain{{ID: 1, Year: 1700, Made: span(p-r.IntN(10), p+r.IntN(10)), Wear: wear}}
	for year := 1700; year <= lastYear; year++ {
		if year > 1700 {
			p = min(12000, p+r.IntN(wear+1))
		}
		if year > 1700 && year < worldYears.Hi && r.IntN(12) == 0 {
			p = 9990 + r.IntN(21)
			works.Repairs = append(works.Repairs, api.Repair{ID: year, Chain: 1, Year: year, Made: span(p-r.IntN(10), p+r.IntN(10))})
		}
		if year <= worldYears.Hi && r.IntN(6) == 0 {
			works.Proofs = append(works.Proofs, api.Proof{ID: 10000 + year, Chain: 1, Year: year, Long: span(p-r.IntN(3), p+r.IntN(3))})
		}
		w.long[year] = p
	}
}

// setStone sets a stone, which is seen, moved and replaced, with at most as many changes as are allowed.
func (w *world) setStone(r *rand.Rand, number int, c scale) {
	h := api.Habit{Step: r.IntN(c.step + 1), Place: r.IntN(c.step + 1)}
	p, letters, left := at(r.IntN(2*c.coord+1)-c.coord, r.IntN(2*c.coord+1)-c.coord), "A", w.parish.Changes
	m := api.Marked{Number: number, Life: api.Life{Habit: h}}
	var points []api.Point
	for k, year := range []int{1700 + r.IntN(2)*r.IntN(3), 1706, 1712} {
		if k > 0 && left > 0 && r.IntN(2) == 0 {
			by := h.Step
			if r.IntN(2) == 0 {
				by = h.Place
				letters = string(rune('A' + r.IntN(3)))
			}
			p = at(p.X+r.IntN(2*by+1)-by, p.Y+r.IntN(2*by+1)-by)
			left--
		}
		points = append(points, p)
		slack := func() int { return r.IntN(2) * r.IntN(c.slack+1) }
		s := sight(k+1, year, box(p.X-slack(), p.X+slack(), p.Y-slack(), p.Y+slack()))
		s.Letters = letters
		m.Life.Sights = append(m.Life.Sights, s)
		if k == 1 && r.IntN(3) == 0 {
			break
		}
	}
	w.parish.Stones = append(w.parish.Stones, m)
	for year := range lastYear {
		w.stand(r, m, points, year)
	}
}

// stand puts a stone where it stood in a year: between two sights where it stood at one of them.
func (w *world) stand(r *rand.Rand, m api.Marked, points []api.Point, year int) {
	sights := m.Life.Sights
	for k, s := range sights {
		if s.Year == year || k+1 < len(sights) && s.Year < year && year < sights[k+1].Year {
			at := points[k]
			if s.Year < year && r.IntN(2) == 0 {
				at = points[k+1]
			}
			w.stood[api.Stood{Number: m.Number, Year: year}] = at
		}
	}
}

// present returns the stones that stand in a year.
func (w *world) present(year int) []int {
	var l []int
	for _, s := range w.parish.Stones {
		if _, is := w.stood[api.Stood{Number: s.Number, Year: year}]; is {
			l = append(l, s.Number)
		}
	}
	return l
}

// goRound adds a walk, of a year in which stones are present, that tells what is true.
func (w *world) goRound(r *rand.Rand, id int) {
	year := worldYears.Lo + r.IntN(worldYears.Hi-worldYears.Lo+1)
	if r.IntN(2) == 0 {
		year = 1706
	}
	here := w.present(year)
	where := func(number int) api.Point { return w.stood[api.Stood{Number: number, Year: year}] }
	x := api.Walk{ID: id, Year: year}
	for range r.IntN(4) {
		r.Shuffle(len(here), func(i, j int) { here[i], here[j] = here[j], here[i] })
		if len(here) >= 2 {
			x.Legs = append(x.Legs, w.chained(r, here[0], here[1], year))
		}
		if len(here) < 3 || r.IntN(2) == 0 {
			continue
		}
		a, b, c := where(here[0]), where(here[1]), where(here[2])
		if turn := (b.X-a.X)*(c.Y-a.Y) - (b.Y-a.Y)*(c.X-a.X); turn != 0 {
			x.Offsets = append(x.Offsets, offset(here[0], here[1], here[2], turn > 0))
		}
	}
	w.parish.Walks = append(w.parish.Walks, x)
}

// chained returns a leg that is true of the chain's length and of where two stones stood in a year.
func (w *world) chained(r *rand.Rand, from, to, year int) api.Leg {
	a, b := w.stood[api.Stood{Number: from, Year: year}], w.stood[api.Stood{Number: to, Year: year}]
	x, y := b.X-a.X, b.Y-a.Y
	links := math.Sqrt(float64(x*x+y*y)) * 10000 / float64(w.long[year])
	slack := r.IntN(3)
	n := int(links) - slack + r.IntN(2*slack+1) + r.IntN(2)
	n = max(0, n)
	for math.Abs(links-float64(n)) > float64(slack)-1e-6 { // on the safe side of what floats can tell
		slack++
	}
	g := leg(from, to, -1, year, n, slack)
	if r.IntN(3) == 0 {
		for q, is := range []bool{x > 0 && x >= max(y, -y), y > 0 && y >= max(x, -x), -x > 0 && -x >= max(y, -y), -y > 0 && -y >= max(x, -x)} {
			if is {
				g.Quarter = q
			}
		}
	}
	return g
}

// spoilt returns a parish in which some walks may be wrong.
func spoilt(r *rand.Rand, p api.Parish) api.Parish {
	p = copied(p)
	for i := range p.Walks {
		for j := range p.Walks[i].Legs {
			g := &p.Walks[i].Legs[j]
			switch r.IntN(5) {
			case 0:
				g.Quarter = r.IntN(5) - 1
			case 1:
				g.Measure.Links = min(99, max(0, g.Measure.Links+r.IntN(7)-3))
			case 2:
				g.Measure.Slack = r.IntN(2)
			}
		}
		for j := range p.Walks[i].Offsets {
			o := &p.Walks[i].Offsets[j]
			o.Left = o.Left == (r.IntN(4) > 0)
		}
	}
	return p
}

// someYears returns some years of a world, in increasing order.
func someYears(r *rand.Rand) []int {
	years := []int{1706}
	for range r.IntN(3) {
		years = append(years, worldYears.Lo+r.IntN(worldYears.Hi-worldYears.Lo+1))
	}
	slices.Sort(years)
	return slices.Compact(years)
}

// randomBounds returns a parish of 1710, some of whose stones are known exactly, and one or two only roughly but for what a true walk tells; and fields near the bounds.
func randomBounds(r *rand.Rand) (api.Parish, []api.Point) {
	w := world{long: map[int]int{1710: 10000}, stood: map[api.Stood]api.Point{}}
	numbers := r.Perm(9)[:3+r.IntN(3)]
	var l []api.Marked
	var fields []api.Point
	for i, n := range numbers {
		turn := 2 * math.Pi * (float64(i) + r.Float64()) / float64(len(numbers))
		p := at(int(20*math.Cos(turn)), int(20*math.Sin(turn)))
		b := one(p)
		if i < 2 {
			wide := []int{7, 3}[i]
			x, y := r.IntN(wide), r.IntN(wide)
			b = box(p.X-x, p.X-x+wide, p.Y-y, p.Y-y+wide)
		}
		l = append(l, standing(n+1, b))
		w.stood[api.Stood{Number: n + 1, Year: 1710}] = p
		fields = append(fields, at(p.X+r.IntN(11)-5, p.Y+r.IntN(11)-5))
	}
	p := parish(l)
	told := api.Walk{ID: 1 + r.IntN(9), Year: 1710}
	for range r.IntN(5) {
		i, j := r.IntN(2), 2+r.IntN(len(l)-2)
		told.Legs = append(told.Legs, w.chained(r, l[i].Number, l[j].Number, 1710))
	}
	for i := range told.Legs {
		if g := &told.Legs[i].Measure; g.Slack > 0 && r.IntN(6) == 0 {
			g.Slack--
		}
	}
	p.Walks = []api.Walk{told}
	return p, fields
}
