package credit

import (
	"cmp"
	"iter"
	"slices"
)

// isSet reports whether a list of integers is in increasing order, each once.
func isSet(l []int) bool {
	for i := 1; i < len(l); i++ {
		if l[i-1] >= l[i] {
			return false
		}
	}
	return true
}

// compareSets compares sets by their lengths, then by their elements.
func compareSets[T cmp.Ordered](a, b []T) int {
	return cmp.Or(cmp.Compare(len(a), len(b)), slices.Compare(a, b))
}

// meet reports whether lists have an element in common.
func meet(a, b []int) bool {
	return slices.ContainsFunc(a, func(n int) bool { return slices.Contains(b, n) })
}

// minus returns a set without the elements of another one.
func minus(a, b []int) []int {
	return slices.DeleteFunc(slices.Clone(a), func(n int) bool { return slices.Contains(b, n) })
}

// isPart reports whether a set has all elements of another one, its part.
func isPart(part, whole []int) bool { return len(minus(part, whole)) == 0 }

// hasPart reports whether one of some sets is a part of a set.
func hasPart(family [][]int, whole []int) bool {
	return slices.ContainsFunc(family, func(part []int) bool { return isPart(part, whole) })
}

// hasWhole reports whether a set is a part of one of some sets.
func hasWhole(family [][]int, part []int) bool {
	return slices.ContainsFunc(family, func(whole []int) bool { return isPart(part, whole) })
}

// parts yields all parts of a set, ordered, each in new memory.
func parts(set []int) iter.Seq[[]int] {
	return func(yield func([]int) bool) {
		var choose func(chosen, rest []int, more int) bool
		choose = func(chosen, rest []int, more int) bool {
			if more == 0 {
				return yield(slices.Clone(chosen))
			}
			for i, n := range rest {
				if !choose(append(chosen, n), rest[i+1:], more-1) {
					return false
				}
			}
			return true
		}
		for size := range len(set) + 1 {
			if !choose(nil, set, size) {
				return
			}
		}
	}
}
