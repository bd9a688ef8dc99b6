package register_test

import (
	"fmt"
	"math/rand/v2"
	"slices"
	"strings"
	"testing"

	"boundstone/api"
	"boundstone/register"
	"boundstone/sheet"
)

// lineOf returns the text of the line with a number and some words, with a line feed.
func lineOf(number int, words ...string) string {
	s, e := sheet.Write(api.Line{Number: number, Words: words})
	if e != api.OK {
		panic(fmt.Sprint(number, words, e))
	}
	return s + "\n"
}

// text returns the text of the line with a number and the words of an entry.
func text(number int, e api.Entry) string {
	l, err := register.Words(e)
	if err != api.OK {
		panic(fmt.Sprint(e, err))
	}
	return lineOf(number, l...)
}

func TestBook(t *testing.T) {
	if s, e := register.Book(nil); s != "" || e != api.OK {
		t.Errorf("P9.2: Book of nothing is %q, %d", s, e)
	}
	l := []api.Entry{in(1700, back(3)), in(1701, claim(4, 1702, 1705)), in(1699, bounds(2, 5, 4, 9))}
	want := lineOf(1, "1700", "back", "3") + lineOf(2, "1701", "claim", "4", "1702", "1705") + lineOf(3, "1699", "bounds", "2", "5", "4", "9")
	if s, e := register.Book(l); s != want || e != api.OK {
		t.Errorf("P9.2: Book of %v is %q, %d, not %q", l, s, e, want)
	}
}

func TestErrorsOfBook(t *testing.T) {
	wide, odd := bounds(0, make([]int, 38)...), api.Entry{Kind: 17}
	many := slices.Repeat([]api.Entry{back(1)}, lastLine)
	for i, x := range []struct {
		l    []api.Entry
		want api.Errno
	}{
		{[]api.Entry{odd}, api.ErrArg},
		{[]api.Entry{wide}, api.ErrLimit},
		{[]api.Entry{back(1), odd, wide}, api.ErrArg},
		{[]api.Entry{back(1), wide, odd}, api.ErrLimit},
		{many, api.OK},
		{append(slices.Clone(many), back(2)), api.ErrLimit},
		{append(slices.Clone(many), odd), api.ErrArg},
		{append(slices.Clone(many), back(2), odd), api.ErrArg},
	} {
		s, e := register.Book(x.l)
		wantError(t, fmt.Sprintf("P9.2: Book of the list %d", i), x.want, s, e)
		if n := strings.Count(s, "\n"); x.want == api.OK && n != len(x.l) {
			t.Errorf("P9.2: the book of %d entries has %d lines", len(x.l), n)
		}
	}
}

func TestGather(t *testing.T) {
	one, two, three := in(1700, back(3)), in(1701, claim(4, 1702, 1705)), in(1699, bounds(2, 5, 4, 9))
	torn := strings.Replace(text(2, two), "claim", "cl?im", 1)
	also := strings.Replace(text(2, two), "4 1702", "4 17??", 1)
	for i, x := range []struct {
		shelf [][]string
		want  api.Gathered
	}{
		{[][]string{nil, nil, nil}, api.Gathered{}},
		{[][]string{{""}, {}, {"\n\n"}}, api.Gathered{}},
		{[][]string{{text(1, one)}, {text(1, two) + text(2, three)}, {text(1, three)}}, api.Gathered{Entries: []api.Entered{
			{Name: name(0, 1), Entry: one}, {Name: name(1, 1), Entry: two}, {Name: name(1, 2), Entry: three}, {Name: name(2, 1), Entry: three}}}},
		// The order of a copy's lines, and of copies, does not matter.
		{[][]string{{text(3, one) + text(1, two), text(2, three)}, nil, nil}, api.Gathered{Entries: []api.Entered{
			{Name: name(0, 1), Entry: two}, {Name: name(0, 2), Entry: three}, {Name: name(0, 3), Entry: one}}}},
		// Gaps, lines that are no entries, and clashes.
		{[][]string{nil, {text(4, one)}, {lineOf(1, "1700", "backs", "3") + text(3, two), text(3, three)}}, api.Gathered{
			Entries: []api.Entered{{Name: name(1, 4), Entry: one}}, Lost: []api.Name{name(1, 1), name(1, 2), name(1, 3), name(2, 1), name(2, 2), name(2, 3)}}},
		// A line of no words, and one that has only blots.
		{[][]string{{lineOf(1) + text(2, one), "@3 ???\n"}, nil, nil}, api.Gathered{Entries: []api.Entered{{Name: name(0, 2), Entry: one}}, Lost: []api.Name{name(0, 1), name(0, 3)}}},
		// A blotted line is put together from two copies.
		{[][]string{nil, nil, {torn, also}}, api.Gathered{Entries: []api.Entered{{Name: name(2, 2), Entry: two}}, Lost: []api.Name{name(2, 1)}}},
		{[][]string{nil, nil, {torn, torn}}, api.Gathered{Lost: []api.Name{name(2, 1), name(2, 2)}}},
		// Three readings of one number are one lost line.
		{[][]string{{text(1, one) + text(2, one), text(1, two) + text(2, one), text(1, three)}, nil, nil}, api.Gathered{Entries: []api.Entered{{Name: name(0, 2), Entry: one}}, Lost: []api.Name{name(0, 1)}}},
		{[][]string{{text(lastLine, one)}, nil, nil}, api.Gathered{Entries: []api.Entered{{Name: name(0, lastLine), Entry: one}}, Lost: names(0, lastLine-1)}},
	} {
		if g, e := register.Gather(x.shelf); e != api.OK || !same(g, x.want) {
			t.Errorf("P9.2: Gather of the shelf %d is %v, %d, not %v", i, g, e, x.want)
		}
	}
}

// names returns the names of the first lines of a book.
func names(vestry, n int) []api.Name {
	var l []api.Name
	for i := range n {
		l = append(l, name(vestry, i+1))
	}
	return l
}

func TestErrorsOfGather(t *testing.T) {
	long := strings.Repeat("x", api.MaxSheet+1)
	many := make([]string, api.MaxCopies+1)
	for i, x := range []struct {
		shelf [][]string
		want  api.Errno
	}{
		{nil, api.ErrArg}, {[][]string{}, api.ErrArg}, {[][]string{nil, nil}, api.ErrArg}, {make([][]string, 4), api.ErrArg}, {[][]string{many, many}, api.ErrArg}, {[][]string{{long}, nil, nil, nil}, api.ErrArg},
		{[][]string{many, nil, nil}, api.ErrLimit}, {[][]string{nil, many, nil}, api.ErrLimit}, {[][]string{{text(1, back(1))}, {text(2, back(1))}, many}, api.ErrLimit},
		{[][]string{{long}, nil, nil}, api.ErrLimit}, {[][]string{nil, nil, {"", long}}, api.ErrLimit},
		{[][]string{many[1:], many[1:], many[1:]}, api.OK}, {[][]string{{long[1:]}, nil, nil}, api.OK},
	} {
		wantError(t, fmt.Sprintf("P9.2: Gather of the shelf %d", i), x.want, all(register.Gather(x.shelf))...)
	}
}

// slowGather returns what copies of books say, number by number.
func slowGather(shelf [][]string) api.Gathered {
	var g api.Gathered
	for vestry, copies := range shelf {
		b, _ := sheet.Collate(copies)
		for n := 1; n <= lastLine; n++ {
			is := func(f api.Found) bool { return f.Line.Number == n }
			lost := slices.ContainsFunc(b.Clashes, is) || slices.ContainsFunc(b.Gaps, func(s api.Span) bool { return s.Lo <= n && n <= s.Hi })
			if i := slices.IndexFunc(b.Lines, is); i >= 0 {
				e, err := register.Read(b.Lines[i].Line.Words)
				if err == api.OK {
					g.Entries = append(g.Entries, api.Entered{Name: name(vestry, n), Entry: e})
				}
				lost = lost || err != api.OK
			}
			if lost {
				g.Lost = append(g.Lost, name(vestry, n))
			}
		}
	}
	return g
}

// harmed returns a copy of a sheet each of whose lines is whole, or has a harm of one of the kinds for which layer 1 promises something.
func harmed(r *rand.Rand, s string, whole func(line int) bool) string {
	var l []api.Harm
	for i, line := range strings.Split(strings.TrimSuffix(s, "\n"), "\n") {
		if whole(i+1) || len(line) < 2 {
			continue
		}
		switch b := r.IntN(len(line) - 1); r.IntN(6) {
		case 0:
			l = append(l, api.Harm{Kind: api.HaLost, A: i})
		case 1:
			l = append(l, api.Harm{Kind: api.HaCut, A: i, B: b})
		case 2:
			l = append(l, api.Harm{Kind: api.HaWrong, A: i, B: b, C: 33 + r.IntN(30)}) // no blot, which is 63
		case 3:
			l = append(l, api.Harm{Kind: api.HaSwapped, A: i, B: b})
		default:
			for range 1 + r.IntN(6) {
				l = append(l, api.Harm{Kind: api.HaBlot, A: i, B: r.IntN(len(line))})
			}
		}
	}
	c, e := sheet.Harmed(s, l)
	if e != api.OK {
		panic(e)
	}
	return c
}

// randomBooks returns three books.
func randomBooks(r *rand.Rand) [3][]api.Entry {
	var books [3][]api.Entry
	for v := range books {
		for range r.IntN(9) {
			books[v] = append(books[v], randomEntry(r))
		}
	}
	return books
}

func TestGatherOfHarmedCopies(t *testing.T) {
	r := newRand(9, 3)
	found, lost := 0, 0
	for range 1500 {
		books := randomBooks(r)
		shelf := make([][]string, 3)
		whole := map[api.Name]bool{}
		for v, l := range books {
			s, e := register.Book(l)
			if e != api.OK {
				t.Fatalf("P9.2: the error of Book of %v is %d", l, e)
			}
			for range r.IntN(4) {
				spared := r.IntN(3)
				shelf[v] = append(shelf[v], harmed(r, s, func(line int) bool {
					if is := r.IntN(3) < spared; !is {
						return false
					}
					whole[name(v, line)] = true
					return true
				}))
			}
		}
		g, e := register.Gather(shelf)
		if e != api.OK || !same(g, slowGather(shelf)) {
			t.Fatalf("P9.2: Gather of %q is %v, %d, not %v", shelf, g, e, slowGather(shelf))
		}
		for _, x := range g.Entries {
			if l := books[x.Name.Vestry]; x.Name.Line > len(l) || !same(x.Entry, l[x.Name.Line-1]) {
				t.Fatalf("P9.13: Gather of copies of %v returns %v", books, x)
			}
			delete(whole, x.Name)
		}
		for n := range whole {
			if n.Line <= len(books[n.Vestry]) {
				t.Fatalf("P9.13: the line %v of %v is whole in a copy, but Gather returns %v", n, books, g)
			}
		}
		found, lost = found+len(g.Entries), lost+len(g.Lost)
	}
	if found < 3000 || lost < 1000 {
		t.Errorf("P9.13: these copies test little: %d entries, %d lost", found, lost)
	}
}

func TestBooksWithTheSameLines(t *testing.T) {
	r := newRand(9, 4)
	for range 200 {
		books := randomBooks(r)
		one, two := make([][]string, 3), make([][]string, 3)
		for v, l := range books {
			s, _ := register.Book(l)
			one[v] = []string{s}
			// Each line is whole in one of both copies, which have scraps, too.
			first := func(line int) bool { return line%2 == 0 }
			two[v] = []string{harmed(r, s, first) + "a scrap\n@?\n", "\n@999 1 x 0000\n" + harmed(r, s, func(line int) bool { return !first(line) })}
		}
		a, e := register.Gather(one)
		b, f := register.Gather(two)
		if e != api.OK || f != api.OK || !same(a.Entries, b.Entries) || len(a.Lost) != 0 || len(a.Entries) != len(books[0])+len(books[1])+len(books[2]) {
			t.Fatalf("P9.13: copies of %v have the entries %v (%d) or %v (%d)", books, a, e, b, f)
		}
	}
}
