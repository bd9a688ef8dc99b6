package sheet_test

import (
	"math/rand/v2"
	"slices"
	"strings"
	"testing"

	"boundstone/api"
	"boundstone/sheet"
)

// found returns what Collate tells of a line.
func found(number int, words []string, restored bool, copies ...int) api.Found {
	return api.Found{Line: api.Line{Number: number, Words: words}, Copies: copies, Restored: restored}
}

func TestCollate(t *testing.T) {
	oak, elm, ash := []string{"oak"}, []string{"elm"}, []string{"ash", "12"}
	one, two, three, four := write(t, 1, oak...), write(t, 2, elm...), write(t, 3, ash...), write(t, 4)
	twoOak, twoAsh, threeElm := write(t, 2, oak...), write(t, 2, ash...), write(t, 3, elm...)
	for _, x := range []struct {
		name   string
		copies []string
		want   api.Book
	}{
		{"no copies", nil, api.Book{}},
		{"empty copies", []string{"", "\n\n"}, api.Book{}},
		{"nothing that speaks", []string{"oak\n@0 x\n@401 \n@2"}, api.Book{}},
		{"one copy", []string{copyOf(one, two)}, api.Book{Lines: []api.Found{found(1, oak, false, 0), found(2, elm, false, 0)}}},
		{"in any order", []string{copyOf(two, one), copyOf(three)}, api.Book{Lines: []api.Found{found(1, oak, false, 0), found(2, elm, false, 0), found(3, ash, false, 1)}}},
		{"twice in a copy", []string{copyOf(one, one), "", copyOf(one, one, one)}, api.Book{Lines: []api.Found{found(1, oak, false, 0, 2)}}},
		{"no words", []string{copyOf(four)}, api.Book{Lines: []api.Found{found(4, nil, false, 0)}, Gaps: []api.Span{{Lo: 1, Hi: 3}}}},
		{"gaps", []string{copyOf(two, four, "@9 2 x"), "@7 "}, api.Book{
			Lines: []api.Found{found(2, elm, false, 0), found(4, nil, false, 0)}, Gaps: []api.Span{{Lo: 1, Hi: 1}, {Lo: 3, Hi: 3}, {Lo: 5, Hi: 9}},
		}},
		{"only a gap", []string{"@400 "}, api.Book{Gaps: []api.Span{{Lo: 1, Hi: 400}}}},
		{"what does not speak makes no gap", []string{copyOf(one, "@3", "@?3 x", "3 x")}, api.Book{Lines: []api.Found{found(1, oak, false, 0)}}},
		{"a clash", []string{copyOf(one, twoOak), copyOf(two, one)}, api.Book{
			Lines: []api.Found{found(1, oak, false, 0, 1)}, Clashes: []api.Found{found(2, oak, false, 0), found(2, elm, false, 1)},
		}},
		{"a clash in one copy", []string{copyOf(two, twoOak)}, api.Book{
			Clashes: []api.Found{found(2, elm, false, 0), found(2, oak, false, 0)}, Gaps: []api.Span{{Lo: 1, Hi: 1}},
		}},
		{"clashes in order", []string{copyOf(threeElm, two, twoOak, two), copyOf(twoAsh, twoOak, three), copyOf(one, two)}, api.Book{
			Lines: []api.Found{found(1, oak, false, 2)},
			Clashes: []api.Found{
				found(2, elm, false, 0, 2), found(2, oak, false, 0, 1), found(2, ash, false, 1), found(3, elm, false, 0), found(3, ash, false, 1),
			},
		}},
		{"of a clash nothing is restored", []string{copyOf(blotted(twoAsh, 6), two), copyOf(blotted(twoAsh, 7), twoOak)}, api.Book{
			Clashes: []api.Found{found(2, elm, false, 0), found(2, oak, false, 1)}, Gaps: []api.Span{{Lo: 1, Hi: 1}},
		}},
	} {
		if got := collate(t, x.copies...); showBook(got) != showBook(x.want) {
			t.Errorf("P1.8: %s: %s, not %s", x.name, showBook(got), showBook(x.want))
		}
	}
}

func TestRestored(t *testing.T) {
	oak, beech := []string{"oak", "12"}, []string{"beech"}
	s, long := write(t, 1, oak...), write(t, 1, beech...) // @1 2 oak 12 ...., @1 1 beech ....
	odd := write(t, 1, "oxx", "12")
	n := len(s)
	gap := api.Book{Gaps: []api.Span{{Lo: 1, Hi: 1}}}
	book := func(copies ...int) api.Book { return api.Book{Lines: []api.Found{found(1, oak, true, copies...)}} }
	for _, x := range []struct {
		name   string
		copies []string
		want   api.Book
	}{
		{"two copies", []string{blotted(s, 5, 6), blotted(s, 7)}, book(0, 1)},
		{"two pieces of one copy", []string{"", copyOf(blotted(s, 5, 6), "x", blotted(s, 7, n-1))}, book(1)},
		{"three copies, in all of which there are blots", []string{blotted(s, 5, 6), blotted(s, 6, 7), "x", blotted(s, 7, 5)}, book(0, 1, 3)},
		{"a piece that adds nothing", []string{blotted(s, 5), blotted(s, 6), blotted(s, 5, 6)}, book(0, 1, 2)},
		{"the same piece again", []string{blotted(s, 5), copyOf(blotted(s, 6), blotted(s, 6)), blotted(s, 5)}, book(0, 1, 2)},
		{"blots in the check", []string{blotted(s, n-1, n-2, n-3, n-4), blotted(s, 5)}, book(0, 1)},
		{"blots behind the number", []string{blotted(s, 3, 4), blotted(s, 5)}, book(0, 1)},
		{"cut ones do not matter", []string{s[:9], blotted(s, 5), blotted(s, 6), s[:n-1], "@1 "}, book(1, 2)},
		{"other lengths do not matter", []string{copyOf(blotted(s, 5), blotted(long, 5)), copyOf(blotted(s, 6), blotted(long, 5, 6))}, book(0, 1)},
		{"other lengths contradict themselves", []string{copyOf("@1 ab", blotted(s, 5)), copyOf("@1 bb", blotted(s, 6))}, book(0, 1)},
		{"what does not speak is not looked at", []string{blotted(s, 5), blotted(s, 6), "x" + s[1:], blotted(s, 0, 5)}, book(0, 1)},
		{"a byte that no copy has", []string{blotted(s, 5, 6), blotted(s, 6, 7)}, gap},
		{"one piece", []string{blotted(s, 5)}, gap},
		{"the number is blotted", []string{blotted(s, 1), blotted(s, 5)}, gap},
		{"the blank behind the number is blotted", []string{blotted(s, 2), blotted(s, 5)}, gap},
		{"the mark is blotted", []string{blotted(s, 0), blotted(s, 5)}, gap},
		{"a wrong byte", []string{blotted(s, 5), blotted(s, 6), s[:7] + "x" + s[8:]}, gap},
		{"a wrong byte where others cannot be read", []string{blotted(s, 6), s[:6] + "x" + blotted(s, 8)[7:]}, gap},
		{"another line of this length", []string{copyOf(blotted(s, 6, 8), blotted(odd, 7, 8)), copyOf(blotted(s, 7), blotted(odd, 6))}, gap},
		{"two lines of other lengths", []string{copyOf(blotted(s, 5), blotted(long, 5)), copyOf(blotted(s, 6), blotted(long, 6))}, gap},
		{"a line is a reading by itself", []string{blotted(s, 5), blotted(s, 6), s}, api.Book{Lines: []api.Found{found(1, oak, false, 2)}}},
		{"a line is a reading, whatever others show", []string{blotted(s, 5), copyOf(long, blotted(s, 6))}, api.Book{Lines: []api.Found{found(1, beech, false, 1)}}},
	} {
		if got := collate(t, x.copies...); showBook(got) != showBook(x.want) {
			t.Errorf("P1.8: %s: %s, not %s", x.name, showBook(got), showBook(x.want))
		}
	}
}

func TestCollateLimits(t *testing.T) {
	one := write(t, 1, "oak")
	most := one + "\n" + strings.Repeat("x", 1<<18-len(one)-1)
	want := api.Book{Lines: []api.Found{found(1, []string{"oak"}, false, 0, 1, 2, 3, 4, 5, 6, 7)}}
	if got := collate(t, slices.Repeat([]string{most}, 8)...); showBook(got) != showBook(want) {
		t.Errorf("P1.8: the longest copies: %s", showBook(got))
	}
	for i, l := range [][]string{make([]string, 9), {one, most + "x"}, {strings.Repeat("\n", 1<<18+1)}} {
		if got, e := sheet.Collate(l); showBook(got) != showBook(api.Book{}) || e != api.ErrLimit {
			t.Errorf("P1.8: %d: %s, %d", i, showBook(got), e)
		}
		for _, k := range []int{0, -1, 20} {
			if got, e := sheet.Sole(l, k); len(got) != 0 || e != api.ErrLimit {
				t.Errorf("P1.10: %d: Sole is %v, %d", i, got, e)
			}
		}
		if got, e := sheet.Enough(l); len(got) != 0 || e != api.ErrLimit {
			t.Errorf("P1.10: %d: Enough is %v, %d", i, got, e)
		}
	}
}

func TestWhole(t *testing.T) {
	words := [][]string{{"oak"}, {}, {"elm", "ash"}}
	got, e := sheet.Whole(collate(t, sheetOf(t, words...)))
	if e != api.OK || len(got) != 3 || !slices.EqualFunc(got, words, slices.Equal) {
		t.Errorf("P1.9: Whole is %q, %d", got, e)
	}
	if got, e := sheet.Whole(api.Book{}); len(got) != 0 || e != api.OK {
		t.Errorf("P1.9: Whole of an empty book is %q, %d", got, e)
	}
	line := func(n int) api.Found { return found(n, []string{"oak"}, false, 0) }
	clashes, gaps := []api.Found{line(1)}, []api.Span{{Lo: 1, Hi: 1}}
	for i, x := range []struct {
		b api.Book
		e api.Errno
	}{
		{api.Book{Lines: []api.Found{line(2)}, Clashes: clashes, Gaps: gaps}, api.ErrClash},
		{api.Book{Lines: []api.Found{line(1)}, Clashes: clashes}, api.ErrClash},
		{api.Book{Lines: []api.Found{line(2)}, Gaps: gaps}, api.ErrNone},
		{api.Book{Gaps: gaps}, api.ErrNone},
		{api.Book{Lines: []api.Found{line(2)}}, api.ErrArg},
		{api.Book{Lines: []api.Found{line(0)}}, api.ErrArg},
		{api.Book{Lines: []api.Found{line(1), line(3)}}, api.ErrArg},
		{api.Book{Lines: []api.Found{line(1), line(1)}}, api.ErrArg},
		{api.Book{Lines: []api.Found{line(2), line(1)}}, api.ErrArg},
	} {
		if got, e := sheet.Whole(x.b); len(got) != 0 || e != x.e {
			t.Errorf("P1.9: %d: Whole is %q, %d, not %d", i, got, e, x.e)
		}
	}
}

func TestFair(t *testing.T) {
	many := slices.Repeat([]string{"w"}, 41)
	for i, x := range []struct {
		l    []api.Found
		want string
		e    api.Errno
	}{
		{nil, "", api.OK},
		{[]api.Found{found(2, []string{"elm"}, true, 1), found(1, nil, false), found(1, nil, false)}, copyOf(write(t, 2, "elm"), write(t, 1), write(t, 1)), api.OK},
		{[]api.Found{found(1, nil, false), found(0, many, false), found(2, many, false)}, "", api.ErrArg},
		{[]api.Found{found(1, nil, false), found(2, []string{"a b"}, false), found(2, many, false)}, "", api.ErrWord},
		{[]api.Found{found(1, nil, false), found(2, many, false), found(2, []string{"a b"}, false)}, "", api.ErrLimit},
	} {
		b := api.Book{Lines: x.l, Clashes: []api.Found{found(9, nil, false)}, Gaps: []api.Span{{Lo: 5, Hi: 6}}}
		if got, e := sheet.Fair(b); got != x.want || e != x.e {
			t.Errorf("P1.9: %d: Fair is %q, %d", i, got, e)
		}
	}
}

func TestBooksAreNew(t *testing.T) {
	s := sheetOf(t, []string{"oak", "elm"}, []string{"oak", "elm"})
	copies := []string{s, s + write(t, 3, "a"), write(t, 3, "b")}
	b := collate(t, copies...)
	want := showBook(b)
	whole, _ := sheet.Whole(api.Book{Lines: b.Lines})
	whole[0][0], whole[1][1] = "x", "y"
	if showBook(b) != want {
		t.Errorf("P1.9: Whole shares memory with the book: %s", showBook(b))
	}
	for _, l := range [][]api.Found{b.Lines, b.Clashes} {
		for i := range l {
			l[i].Line.Words[0] = "z" + sheet.Int(i)
			l[i].Copies[0] += 10 + i
			_ = append(l[i].Copies, 77)
			_ = append(l[i].Line.Words, "more")
		}
	}
	changed := "lines 1[\"z0\" \"elm\"] in [10 1]; 2[\"z1\" \"elm\"] in [11 1];  clashes 3[\"z0\"] in [11]; 3[\"z1\"] in [13];  gaps []"
	if showBook(b) != changed {
		t.Errorf("P1.8: results share memory: %s", showBook(b))
	}
	if got := showBook(collate(t, copies...)); got != want {
		t.Errorf("P1.8: results share memory with later ones: %s", got)
	}
	before := []string{"b", "c", "a"}
	collate(t, before...)
	if !slices.Equal(before, []string{"b", "c", "a"}) {
		t.Errorf("P1.8: copies were changed: %q", before)
	}
}

// harmedPiece returns a text that has come to harm, or not.
func harmedPiece(r *rand.Rand, s string) string {
	b := []byte(s)
	i := r.IntN(len(b))
	switch r.IntN(8) {
	case 0:
		return s[:i]
	case 1:
		b[i] = "?@ 1a2\n"[r.IntN(7)]
	case 2:
		if i > 0 {
			b[i-1], b[i] = b[i], b[i-1]
		}
	case 3, 4, 5:
		for range 1 + r.IntN(4) {
			b[r.IntN(len(b))] = '?'
		}
	}
	return string(b)
}

// harmedCopies returns some copies of a few lines, some of which have the same number.
func harmedCopies(t *testing.T, r *rand.Rand, most int) []string {
	t.Helper()
	texts := []string{write(t, 1, "a"), write(t, 1, "b"), write(t, 1, "ab"), write(t, 2, "a", "1"), write(t, 2, "a"), write(t, 3), write(t, 5, "c")}
	texts = texts[r.IntN(4):]
	copies := make([]string, r.IntN(most+1))
	for k := range copies {
		for range r.IntN(6) {
			copies[k] += harmedPiece(r, texts[r.IntN(len(texts))]) + "\n"
		}
	}
	return copies
}

func TestRandomBooks(t *testing.T) {
	r := rand.New(rand.NewPCG(1, 8))
	restored, clashes := 0, 0
	for range 3000 {
		copies := harmedCopies(t, r, 8)
		got, want := collate(t, copies...), bookOf(copies)
		if showBook(got) != showBook(want) {
			t.Fatalf("P1.8: Collate of %q is %s, not %s", copies, showBook(got), showBook(want))
		}
		for _, f := range got.Lines {
			if f.Restored {
				restored++
			}
		}
		clashes += len(got.Clashes)
	}
	if restored < 100 || clashes < 100 {
		t.Errorf("P1.8: these copies test little: %d restored, %d clashes", restored, clashes)
	}
}
