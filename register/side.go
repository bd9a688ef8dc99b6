package register

import (
	"slices"

	"boundstone/api"
	"boundstone/credit"
	"boundstone/walk"
)

// scene is all on which it depends where points lie in a year.
type scene struct {
	bench         api.Bench
	present, ring []int
}

func (s scene) equals(other scene) bool {
	return slices.Equal(s.present, other.present) && slices.Equal(s.ring, other.ring) &&
		slices.Equal(s.bench.Witnesses, other.bench.Witnesses) && slices.Equal(s.bench.Accounts, other.bench.Accounts) &&
		slices.Equal(s.bench.Problem.Boxes, other.bench.Problem.Boxes) && slices.Equal(s.bench.Problem.Facts, other.bench.Problem.Facts)
}

// settled is a scene, its least withdrawals, and what was found of points there.
type settled struct {
	scene
	least [][]int
	wrong api.Errno // why there are no least withdrawals
	sides map[api.Point]sided
}

// sided is on which side a point lies, or why that cannot be said.
type sided struct {
	answer api.Answer
	wrong  api.Errno
}

// memory is scenes that were settled in a call: many years and many registers have the same ones.
type memory struct{ scenes []*settled }

// view is a register as it is seen in a year.
type view struct {
	api.Register
	*settled
	year int
}

// view returns the view of a valid register in a year.
func (m *memory) view(r api.Register, year int) view {
	b, e := bench(r, year)
	if e != api.OK {
		return view{Register: r, settled: &settled{wrong: e}, year: year}
	}
	present, _ := walk.Present(r.Parish, year) // the bench has their boxes, so that there is no error
	s := scene{bench: b, present: present, ring: r.Parish.Ring}
	i := slices.IndexFunc(m.scenes, func(x *settled) bool { return x.equals(s) })
	if i < 0 {
		i = len(m.scenes)
		least, e := credit.Least(b)
		m.scenes = append(m.scenes, &settled{scene: s, least: least, wrong: e, sides: make(map[api.Point]sided)})
	}
	return view{Register: r, settled: m.scenes[i], year: year}
}

// viewOf returns the view of a valid register in one year alone.
func viewOf(r api.Register, year int) view { return new(memory).view(r, year) }

// Side returns whether a field lies inside of the bounds in a year.
func Side(r api.Register, field, year int) (api.Answer, api.Errno) {
	if e := Check(r); e != api.OK {
		return 0, e
	}
	f, is := fieldOf(r.Fields, field)
	if !is {
		return 0, api.ErrNone
	}
	return viewOf(r, year).side(f.At)
}

// side returns on which side of the bounds a point lies by all least withdrawals.
func (v view) side(at api.Point) (api.Answer, api.Errno) {
	if v.wrong != api.OK {
		return 0, v.wrong
	}
	s, is := v.sides[at]
	if !is {
		s.answer, s.wrong = v.look(at)
		v.sides[at] = s
	}
	return s.answer, s.wrong
}

func (v view) look(at api.Point) (api.Answer, api.Errno) {
	var answers []api.Answer
	for _, ids := range v.least {
		p, _ := walk.Without(v.Parish, ids) // the parish was checked before
		s, e := walk.Side(p, v.year, at)
		if e != api.OK {
			return 0, e
		}
		answers = append(answers, s.Answer)
	}
	if answers = slices.Compact(answers); len(answers) > 1 {
		return api.Open, api.OK
	}
	return answers[0], api.OK
}
