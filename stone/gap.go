package stone

import (
	"boundstone/api"
	"boundstone/plane"
)

// gap is the way from one sight to a neighbouring one: what can happen to stones, and by how much one that stays is higher at the end.
type gap struct {
	habit api.Habit
	rise  api.Span
}

// onward returns the gap from its first sight to its second one.
func onward(l api.Life, k int) gap {
	return gap{habit: l.Habit, rise: api.Span{Lo: -sinks(l, k)}}
}

// backward returns the gap from its second sight to its first one.
func backward(l api.Life, k int) gap {
	return gap{habit: l.Habit, rise: api.Span{Hi: sinks(l, k)}}
}

// sinks returns by how much a stone that stays sinks at most in a gap.
func sinks(l api.Life, k int) int {
	years := yearsOf(l, k)
	return l.Habit.Sink * (years.Hi - years.Lo)
}

// same returns what a stone can be at the end of a gap in which it stayed.
func (g gap) same(s state) state {
	s.height = api.Span{Lo: s.height.Lo + g.rise.Lo, Hi: s.height.Hi + g.rise.Hi}
	return s
}

// moved returns what a stone can be at the end of a gap in which it was moved.
func (g gap) moved(s state) state {
	return state{at: around(s.at, g.habit.Step), height: anyHeight(), letters: s.letters}
}

// replaced returns what a stone can be at the end of a gap in which it was replaced.
func (g gap) replaced(s state) state {
	return state{at: around(s.at, g.habit.Place), height: anyHeight()}
}

// through returns what a stone can be at the end of a gap of some kind.
func (g gap) through(kind int, s state) state {
	does := [kinds]func(gap, state) state{
		api.GaSame:     gap.same,
		api.GaMoved:    gap.moved,
		api.GaReplaced: gap.replaced,
	}
	return does[kind](g, s)
}

// around returns all valid points near those of a proper box.
func around(b api.Box, by int) api.Box {
	b, _ = plane.Grow(b, by)
	return b
}

func anyHeight() api.Span { return api.Span{Hi: api.MaxHeight} }
