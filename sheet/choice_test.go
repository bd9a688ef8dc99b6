package sheet_test

import (
	"math/rand/v2"
	"slices"
	"testing"

	"boundstone/api"
	"boundstone/sheet"
)

// sole returns what Sole returns without an error.
func sole(t *testing.T, copies []string, k int) []int {
	t.Helper()
	l, e := sheet.Sole(copies, k)
	if e != api.OK {
		t.Fatalf("P1.10: Sole of %q, %d: %d", copies, k, e)
	}
	return l
}

// enough returns what Enough returns without an error.
func enough(t *testing.T, copies []string) []int {
	t.Helper()
	l, e := sheet.Enough(copies)
	if e != api.OK {
		t.Fatalf("P1.10: Enough of %q: %d", copies, e)
	}
	return l
}

func TestSole(t *testing.T) {
	one, two, three := write(t, 1, "oak"), write(t, 2, "elm"), write(t, 3, "ash")
	twoOak := write(t, 2, "oak")
	for _, x := range []struct {
		name   string
		copies []string
		k      int
		want   []int
	}{
		{"one copy", []string{copyOf(three, one)}, 0, []int{1, 3}},
		{"lines of others", []string{copyOf(one, two, three), copyOf(two)}, 0, []int{1, 3}},
		{"nothing alone", []string{copyOf(one, two), copyOf(two)}, 1, nil},
		{"an empty copy", []string{copyOf(one), ""}, 1, nil},
		{"restored with the copy alone", []string{blotted(one, 5), blotted(one, 6)}, 0, []int{1}},
		{"restored without the copy, too", []string{blotted(one, 5), blotted(one, 6), blotted(one, 7)}, 2, nil},
		{"restored without it, otherwise there is a clash", []string{copyOf(two), copyOf(twoOak, one)}, 1, []int{1}},
		{"a clash without it", []string{two, twoOak, copyOf(three)}, 2, []int{3}},
		{"another line without it", []string{copyOf(blotted(two, 5), blotted(two, 6)), twoOak}, 1, nil},
		{"a wrong piece takes away", []string{blotted(one, 5), blotted(one, 6), one[:5] + "x" + one[6:]}, 2, nil},
	} {
		if got := sole(t, x.copies, x.k); !slices.Equal(got, x.want) {
			t.Errorf("P1.10: %s: Sole is %v, not %v", x.name, got, x.want)
		}
	}
	for _, k := range []int{-1, 2, 1 << 40} {
		if got, e := sheet.Sole([]string{one, two}, k); len(got) != 0 || e != api.ErrArg {
			t.Errorf("P1.10: Sole of %d is %v, %d", k, got, e)
		}
	}
	if got, e := sheet.Sole(nil, 0); len(got) != 0 || e != api.ErrArg {
		t.Errorf("P1.10: Sole of no copies is %v, %d", got, e)
	}
}

func TestEnough(t *testing.T) {
	one, two, three := write(t, 1, "oak"), write(t, 2, "elm"), write(t, 3, "ash")
	twoOak := write(t, 2, "oak")
	for _, x := range []struct {
		name   string
		copies []string
		want   []int
	}{
		{"no copies", nil, nil},
		{"no lines", []string{"", "x", "@1 "}, nil},
		{"only clashes", []string{two, twoOak}, nil},
		{"the first of equals", []string{"", one, one, one}, []int{1}},
		{"the fewest", []string{copyOf(one, two), copyOf(two, three), copyOf(one, two, three)}, []int{2}},
		{"the least first index", []string{copyOf(two), copyOf(one, two), copyOf(three), copyOf(one, three), copyOf(three)}, []int{0, 3}},
		{"the least second index", []string{copyOf(one), copyOf(two), copyOf(two), copyOf(three), copyOf(three)}, []int{0, 1, 3}},
		{"all", []string{one, two, three, write(t, 4), write(t, 5), write(t, 6), write(t, 7), write(t, 8)}, []int{0, 1, 2, 3, 4, 5, 6, 7}},
		{"restored by several", []string{copyOf(blotted(one, 5)), copyOf(blotted(one, 6)), copyOf(blotted(one, 6))}, []int{0, 1}},
		{"restored, or whole", []string{copyOf(blotted(one, 5), blotted(one, 6)), one}, []int{0}},
		{"not another line", []string{copyOf(blotted(two, 5), blotted(two, 6)), twoOak}, []int{1}},
		{"clashes do not count", []string{copyOf(two), copyOf(twoOak, three)}, []int{1}},
	} {
		if got := enough(t, x.copies); !slices.Equal(got, x.want) {
			t.Errorf("P1.10: %s: Enough is %v, not %v", x.name, got, x.want)
		}
	}
}

// without returns the copies but that with the index k.
func without(copies []string, k int) []string {
	return slices.Delete(slices.Clone(copies), k, k+1)
}

// tells reports whether copies have all the lines in their book.
func tells(t *testing.T, copies []string, lines []api.Found) bool {
	t.Helper()
	have := map[string]bool{}
	for _, f := range collate(t, copies...).Lines {
		have[showLine(f.Line)] = true
	}
	return !slices.ContainsFunc(lines, func(f api.Found) bool { return !have[showLine(f.Line)] })
}

// best returns the fewest copies that have all the lines in their book, by looking at all choices.
func best(t *testing.T, copies []string) []int {
	t.Helper()
	all := collate(t, copies...).Lines
	var l []int
	for choice := range 1 << len(copies) {
		var indices []int
		var some []string
		for k, s := range copies {
			if choice>>k&1 == 1 {
				indices, some = append(indices, k), append(some, s)
			}
		}
		better := l == nil || len(indices) < len(l) || len(indices) == len(l) && slices.Compare(indices, l) < 0
		if better && tells(t, some, all) {
			l = append([]int{}, indices...)
		}
	}
	return l
}

func TestRandomChoices(t *testing.T) {
	r := rand.New(rand.NewPCG(1, 10))
	sizes := map[int]int{}
	for range 600 {
		copies := harmedCopies(t, r, 6)
		got, want := enough(t, copies), best(t, copies)
		if !slices.Equal(got, want) {
			t.Fatalf("P1.10: Enough of %q is %v, not %v", copies, got, want)
		}
		sizes[len(got)]++
		for k := range copies {
			var want []int
			rest := collate(t, without(copies, k)...).Lines
			for _, f := range collate(t, copies...).Lines {
				if !slices.ContainsFunc(rest, func(o api.Found) bool { return o.Line.Number == f.Line.Number }) {
					want = append(want, f.Line.Number)
				}
			}
			if got := sole(t, copies, k); !slices.Equal(got, want) {
				t.Fatalf("P1.10: Sole of %q, %d is %v, not %v", copies, k, got, want)
			}
		}
	}
	if sizes[2] < 20 || sizes[3] < 10 {
		t.Errorf("P1.10: these copies test little: %v", sizes)
	}
}
