package chainage

import "boundstone/api"

// bar is how many links of a chain, times its length in points, make a link of the standard bar.
const bar = api.Points * api.Nominal

// Distance returns the least and the greatest distance, in links of the standard bar, that a measure can be.
func Distance(w api.Works, m api.Measure) (api.Span, api.Errno) {
	if e := Check(w); e != api.OK {
		return api.Span{}, e
	}
	if !validMeasure(w, m) {
		return api.Span{}, api.ErrArg
	}
	long, e := Long(w, m.Chain, m.Year)
	if e != api.OK {
		return api.Span{}, e
	}
	links := api.Nominal*m.Chains + m.Links
	return api.Span{
		Lo: max(0, links-m.Slack) * long.Lo / bar,
		Hi: ((links+m.Slack)*long.Hi + bar - 1) / bar,
	}, api.OK
}

func validMeasure(w api.Works, m api.Measure) bool {
	c, is := chainOf(w.Chains, m.Chain)
	return is && within(yearsOf(c), m.Year) &&
		within(api.Span{Hi: api.MaxCount}, m.Chains) &&
		within(api.Span{Hi: api.Nominal - 1}, m.Links) &&
		within(api.Span{Hi: api.MaxCount}, m.Slack)
}

// Total returns the least and the greatest sum of the distances of measures.
func Total(w api.Works, l []api.Measure) (api.Span, api.Errno) {
	if e := Check(w); e != api.OK {
		return api.Span{}, e
	}
	if len(l) > api.MaxLegs {
		return api.Span{}, api.ErrLimit
	}
	var sum api.Span
	for _, m := range l {
		s, e := Distance(w, m)
		if e != api.OK {
			return api.Span{}, e
		}
		sum.Lo += s.Lo
		sum.Hi += s.Hi
	}
	return sum, api.OK
}

// Closes reports whether two ways that were measured can be equally long.
func Closes(w api.Works, there, back []api.Measure) (bool, api.Errno) {
	s, e := Total(w, there)
	if e != api.OK {
		return false, e
	}
	t, e := Total(w, back)
	if e != api.OK {
		return false, e
	}
	return s.Lo <= t.Hi && t.Lo <= s.Hi, api.OK
}

// Needed returns the proofs and repairs each of which, taken back alone, changes what a measure can be.
func Needed(w api.Works, m api.Measure) ([]int, api.Errno) {
	s, e := Distance(w, m)
	if e != api.OK {
		return nil, e
	}
	changed := func(rest api.Works) bool {
		t, e := Distance(rest, m)
		return e != api.OK || t != s
	}
	return takenBack(w, changed), api.OK
}
