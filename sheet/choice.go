package sheet

import (
	"cmp"
	"iter"
	"slices"

	"boundstone/api"
)

// Sole returns the numbers of lines that one copy alone has.
func Sole(copies []string, k int) ([]int, api.Errno) {
	shelf, e := allScraps(copies)
	if e != api.OK {
		return nil, e
	}
	if k < 0 || k >= len(shelf) {
		return nil, api.ErrArg
	}
	all := collate(shelf).Lines
	rest := collate(slices.Delete(shelf, k, k+1)).Lines
	var l []int
	for _, f := range all {
		if _, there := lineOf(rest, f.Line.Number); !there {
			l = append(l, f.Line.Number)
		}
	}
	return l, api.OK
}

// lineOf returns the line with a number, of lines in increasing order of their numbers.
func lineOf(l []api.Found, number int) (api.Line, bool) {
	i, there := slices.BinarySearchFunc(l, number, func(f api.Found, n int) int {
		return cmp.Compare(f.Line.Number, n)
	})
	if !there {
		return api.Line{}, false
	}
	return l[i].Line, true
}

// Enough returns the fewest copies that have all lines that all copies have.
func Enough(copies []string) ([]int, api.Errno) {
	shelf, e := allScraps(copies)
	if e != api.OK {
		return nil, e
	}
	all := collate(shelf).Lines
	shelf = speakingOf(shelf, all)
	var choice []int
search:
	for choice = range choices(len(shelf)) { // the last choice, all copies, is enough
		some := collate(chosen(shelf, choice)).Lines
		for _, f := range all {
			if !hasLine(some, f.Line) {
				continue search
			}
		}
		break search
	}
	return choice, api.OK
}

// speakingOf returns the scraps with the numbers of some lines: other ones need not be collated again for each choice of copies.
func speakingOf(shelf [][]scrap, lines []api.Found) [][]scrap {
	l := make([][]scrap, len(shelf))
	for k, copied := range shelf {
		for _, s := range copied {
			if _, there := lineOf(lines, s.number); there {
				l[k] = append(l[k], s)
			}
		}
	}
	return l
}

func chosen(shelf [][]scrap, choice []int) [][]scrap {
	var l [][]scrap
	for _, k := range choice {
		l = append(l, shelf[k])
	}
	return l
}

func hasLine(l []api.Found, line api.Line) bool {
	other, there := lineOf(l, line.Number)
	return there && slices.Equal(other.Words, line.Words)
}

// choices yields all sets of numbers from 0 to n - 1: smaller ones first, those of one size in lexicographic order.
func choices(n int) iter.Seq[[]int] {
	return func(yield func([]int) bool) {
		var choice []int
		var extend func(from, more int) bool
		extend = func(from, more int) bool {
			if more == 0 {
				return yield(slices.Clone(choice))
			}
			for k := from; k+more <= n; k++ {
				choice = append(choice, k)
				if !extend(k+1, more-1) {
					return false
				}
				choice = choice[:len(choice)-1]
			}
			return true
		}
		for size := range n + 1 {
			if !extend(0, size) {
				return
			}
		}
	}
}
