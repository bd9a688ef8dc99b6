package stone

import (
	"slices"

	"boundstone/api"
)

const alone = -1 // the index of what is in no pair

// matching is a choice of pairs no two of which have an index in common.
type matching struct {
	near  [][]int // of each One its Twos in all pairs
	twoOf []int   // of each One its Two in the matching
	oneOf []int   // of each Two its One in the matching
}

// greatest returns a matching with as many pairs as possible. A matching has fewer exactly if there is a way from a One that is alone to a Two that is alone, on which pairs outside of the matching and inside of it take turns: then they are exchanged.
func greatest(pairs []api.Pair) matching {
	m := unmatched(pairs)
improve:
	for {
		from := m.reached()
		for two, one := range from {
			if one != alone && m.oneOf[two] == alone {
				m.exchange(from, two)
				continue improve
			}
		}
		return m
	}
}

// unmatched returns a matching with no pairs.
func unmatched(pairs []api.Pair) matching {
	m := matching{
		near:  make([][]int, api.MaxListed),
		twoOf: slices.Repeat([]int{alone}, api.MaxListed),
		oneOf: slices.Repeat([]int{alone}, api.MaxListed),
	}
	for _, p := range pairs {
		m.near[p.One] = append(m.near[p.One], p.Two)
	}
	return m
}

// reached returns, for each Two to which such a way leads from a One that is alone, the One ahead of it.
func (m matching) reached() []int {
	from := slices.Repeat([]int{alone}, len(m.oneOf))
	var ones []int
	for one, two := range m.twoOf {
		if two == alone {
			ones = append(ones, one)
		}
	}
	for len(ones) > 0 {
		one := ones[0]
		ones = ones[1:]
		for _, two := range m.near[one] {
			if from[two] != alone {
				continue
			}
			from[two] = one
			if next := m.oneOf[two]; next != alone {
				ones = append(ones, next)
			}
		}
	}
	return from
}

// exchange exchanges the pairs on the way to a Two that is alone, which adds one pair.
func (m matching) exchange(from []int, two int) {
	for two != alone {
		one := from[two]
		next := m.twoOf[one]
		m.twoOf[one], m.oneOf[two] = two, one
		two = next
	}
}

// pairs returns the pairs of a matching, by One.
func (m matching) pairs() []api.Pair {
	var l []api.Pair
	for one, two := range m.twoOf {
		if two != alone {
			l = append(l, api.Pair{One: one, Two: two})
		}
	}
	return l
}

// Match returns as many pairs as possible, no two of which have a sight in common.
func Match(h api.Habit, l, m []api.Sight) ([]api.Pair, api.Errno) {
	pairs, e := Pairs(h, l, m)
	if e != api.OK {
		return nil, e
	}
	return greatest(pairs).pairs(), api.OK
}

// Forced returns the pairs that all such matchings have.
func Forced(h api.Habit, l, m []api.Sight) ([]api.Pair, api.Errno) {
	pairs, e := Pairs(h, l, m)
	if e != api.OK {
		return nil, e
	}
	match := greatest(pairs).pairs()
	size := len(match)
	canGo := func(p api.Pair) bool {
		others := slices.DeleteFunc(slices.Clone(pairs), func(q api.Pair) bool { return q == p })
		return len(greatest(others).pairs()) == size
	}
	return slices.DeleteFunc(match, canGo), api.OK
}

// Cover returns sights of both lists of which each pair has one, as few as a matching has pairs.
func Cover(h api.Habit, l, m []api.Sight) (one, two []int, e api.Errno) {
	pairs, e := Pairs(h, l, m)
	if e != api.OK {
		return nil, nil, e
	}
	one, two = greatest(pairs).cover()
	return one, two, api.OK
}

// cover returns one of both indices of each pair of a matching with as many pairs as possible, such that each pair of all has one of them: the Two if a way leads to it, which leads on to the One and all Twos near it, and the One otherwise, because no way comes to it.
func (m matching) cover() (ones, twos []int) {
	from := m.reached()
	for one, two := range m.twoOf {
		if two != alone && from[two] == alone {
			ones = append(ones, one)
		}
	}
	for two, one := range from {
		if one != alone {
			twos = append(twos, two)
		}
	}
	return ones, twos
}

// CheckMatch returns OK if pairs and a cover show that no matching has more pairs.
func CheckMatch(h api.Habit, l, m []api.Sight, pairs []api.Pair, one, two []int) api.Errno {
	all, e := Pairs(h, l, m)
	if e != api.OK {
		return e
	}
	if !isMatching(all, pairs) || !increases(one) || !increases(two) || len(pairs) != len(one)+len(two) {
		return api.ErrProof
	}
	for _, p := range all {
		if !slices.Contains(one, p.One) && !slices.Contains(two, p.Two) {
			return api.ErrProof
		}
	}
	return api.OK
}

// isMatching reports whether some pairs are a matching, of all pairs.
func isMatching(all, some []api.Pair) bool {
	for i, p := range some {
		meets := func(q api.Pair) bool { return q.One == p.One || q.Two == p.Two }
		if !slices.Contains(all, p) || slices.ContainsFunc(some[:i], meets) {
			return false
		}
	}
	return true
}

func increases(l []int) bool {
	for i := range l {
		if i > 0 && l[i] <= l[i-1] {
			return false
		}
	}
	return true
}
