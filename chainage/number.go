package chainage

import (
	"iter"
	"sort"

	"boundstone/api"
)

func within(s api.Span, n int) bool { return s.Lo <= n && n <= s.Hi }

// inside reports whether a span is one, and lies within another one.
func inside(s, whole api.Span) bool {
	return s.Lo <= s.Hi && whole.Lo <= s.Lo && s.Hi <= whole.Hi
}

func width(s api.Span) int { return s.Hi - s.Lo }

// each yields the numbers of a span.
func each(s api.Span) iter.Seq[int] {
	return func(yield func(int) bool) {
		for n := s.Lo; n <= s.Hi; n++ {
			if !yield(n) {
				return
			}
		}
	}
}

func greatest(first int, others ...int) int {
	n := first
	for _, other := range others {
		n = max(n, other)
	}
	return n
}

func least(first int, others ...int) int {
	n := first
	for _, other := range others {
		n = min(n, other)
	}
	return n
}

// lastUpTo returns the index of the last of things, which are sorted by their years, that is not later than a year; -1 if all are later.
func lastUpTo[T any](sorted []T, year int, of func(T) int) int {
	later := sort.Search(len(sorted), func(i int) bool { return of(sorted[i]) > year })
	return later - 1
}
