package stone

import (
	"boundstone/api"
	"boundstone/plane"
)

// state is what a stone can be at a sight: at each point of a box, with each height of a span, and with all letters that can be read as a pattern, or any letters if that is empty. What it can be in one of these does not depend on the others.
type state struct {
	at      api.Box
	height  api.Span
	letters string
}

// seen returns what a sight says alone.
func seen(s api.Sight) state { return state{at: s.At, height: s.Height, letters: s.Letters} }

// only returns the state of a stone of which all is known.
func only(p api.Point, letters string, height int) state {
	return state{
		at:      api.Box{X: single(p.X), Y: single(p.Y)},
		height:  single(height),
		letters: letters,
	}
}

func single(n int) api.Span { return api.Span{Lo: n, Hi: n} }

func (s state) box() api.Box     { return s.at }
func (s state) span() api.Span   { return s.height }
func (s state) pattern() string  { return s.letters }
func (s state) least() api.Point { return plane.Corners(s.at)[0] }

// has reports whether a stone can be so.
func (s state) has(p api.Point, letters string, height int) bool {
	alike := s.letters == "" || Reads(letters, s.letters)
	return alike && plane.Holds(s.at, p) && within(s.height, height)
}

// meet returns what a stone can be by two states, of which the second one may have any letters, and whether there is anything.
func meet(s, t state) (state, bool) {
	at, here := plane.Meet(s.at, t.at)
	letters, alike := together(s.letters, t.letters)
	height := api.Span{Lo: max(s.height.Lo, t.height.Lo), Hi: min(s.height.Hi, t.height.Hi)}
	if !here || !alike || height.Lo > height.Hi {
		return state{}, false
	}
	return state{at: at, height: height, letters: letters}, true
}
