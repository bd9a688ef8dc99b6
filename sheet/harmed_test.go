package sheet_test

import (
	"math/rand/v2"
	"slices"
	"strings"
	"testing"

	"boundstone/api"
	"boundstone/sheet"
)

// What can have happened to a line of a copy, as P1.13 says it.
const (
	isWhole = iota
	isLost
	isCut
	isBlotted
	isBlottedAndCut
	isWrong
	isSwapped
	states
)

// tornSheet is a sheet, and copies of it with what happened to each line.
type tornSheet struct {
	words  [][]string
	texts  []string
	copies []string
	states [][]int // by copy and line
}

// randomTear returns a sheet with copies whose lines have come to harm as allowed says; each kind stands there as often as it is likely.
func randomTear(t *testing.T, r *rand.Rand, allowed []int) tornSheet {
	t.Helper()
	var x tornSheet
	for i := range 1 + r.IntN(14) {
		x.words = append(x.words, randomWords(r, 4))
		x.texts = append(x.texts, write(t, i+1, x.words[i]...))
	}
	s := sheetOf(t, x.words...)
	for range 1 + r.IntN(4) {
		var happened []int
		var l []api.Harm
		for i, text := range x.texts {
			state := allowed[r.IntN(len(allowed))]
			happened = append(happened, state)
			l = append(l, randomHarms(r, state, i, text)...)
		}
		x.states = append(x.states, happened)
		x.copies = append(x.copies, harm(t, s, l...))
	}
	return x
}

// randomHarms returns harms that bring the line with an index and a text to a state.
func randomHarms(r *rand.Rand, state, a int, text string) []api.Harm {
	b := r.IntN(len(text))
	var l []api.Harm
	switch state {
	case isLost:
		l = append(l, api.Harm{Kind: api.HaLost, A: a})
	case isBlotted, isBlottedAndCut:
		for range 1 + r.IntN(4) {
			l = append(l, api.Harm{Kind: api.HaBlot, A: a, B: r.IntN(len(text))})
		}
	case isWrong:
		for _, c := range []byte{"@ 0123456789ab\n"[r.IntN(15)], 'x', 'y'} {
			if c != text[b] {
				return []api.Harm{{Kind: api.HaWrong, A: a, B: b, C: int(c)}}
			}
		}
	case isSwapped:
		b = 0
		for b+2 < len(text) && (text[b] == text[b+1] || r.IntN(4) > 0) {
			b++
		}
		if text[b] == text[b+1] { // the mark and the first digit always differ
			b = 0
		}
		l = append(l, api.Harm{Kind: api.HaSwapped, A: a, B: b})
	}
	if state == isCut || state == isBlottedAndCut {
		l = append(l, api.Harm{Kind: api.HaCut, A: a, B: r.IntN(len(text))})
	}
	return l
}

func TestNothingElse(t *testing.T) {
	r := rand.New(rand.NewPCG(1, 13))
	restored, wrong := 0, 0
	for range 3000 {
		var allowed []int
		for state := range states {
			allowed = append(allowed, state)
		}
		x := randomTear(t, r, append(allowed, isBlotted, isBlotted, isBlotted))
		b := collate(t, x.copies...)
		if len(b.Clashes) > 0 {
			t.Fatalf("P1.13: copies %q of %q have clashes: %s", x.copies, x.texts, showBook(b))
		}
		for _, f := range b.Lines {
			if n := f.Line.Number; n > len(x.texts) || showLine(f.Line) != showLine(api.Line{Number: n, Words: x.words[n-1]}) {
				t.Fatalf("P1.13: copies %q of %q tell %s", x.copies, x.texts, showLine(f.Line))
			}
			if f.Restored {
				restored++
			}
		}
		for _, l := range x.states {
			for _, state := range l {
				if state == isWrong || state == isSwapped {
					wrong++
				}
			}
		}
		checkWholeOnes(t, x, b)
	}
	if restored < 100 || wrong < 1000 {
		t.Errorf("P1.13: these copies test little: %d lines restored, %d mistakes", restored, wrong)
	}
}

// checkWholeOnes fails unless a book has each line that is whole in a copy, with just the copies in which it is.
func checkWholeOnes(t *testing.T, x tornSheet, b api.Book) {
	t.Helper()
	for i, words := range x.words {
		var whole []int
		for k := range x.copies {
			if x.states[k][i] == isWhole {
				whole = append(whole, k)
			}
		}
		if len(whole) == 0 {
			continue
		}
		want := showFound([]api.Found{found(i+1, words, false, whole...)})
		if !strings.Contains(showFound(b.Lines), want) {
			t.Fatalf("P1.14: copies %q of %q: there is no %s in %s", x.copies, x.texts, want, showFound(b.Lines))
		}
	}
}

func TestRestoredIfReadable(t *testing.T) {
	r := rand.New(rand.NewPCG(1, 14))
	readable := 0
	for range 4000 {
		x := randomTear(t, r, []int{isBlotted, isBlotted, isBlotted, isBlotted, isLost, isCut, isWrong})
		b := collate(t, x.copies...)
		for i, words := range x.words {
			copies, is := readableIn(x, i)
			if !is {
				continue
			}
			readable++
			want := showFound([]api.Found{found(i+1, words, true, copies...)})
			if !strings.Contains(showFound(b.Lines), want) {
				t.Fatalf("P1.14: copies %q of %q: there is no %s in %s", x.copies, x.texts, want, showFound(b.Lines))
			}
		}
	}
	if readable < 300 {
		t.Errorf("P1.14: these copies test little: %d lines that can be restored", readable)
	}
}

// readableIn returns the copies in which the line with an index has blots alone, and whether it is to be restored from them, as P1.14 says it.
func readableIn(x tornSheet, i int) ([]int, bool) {
	var copies []int
	var pieces int
	seen := make([]bool, len(x.texts[i]))
	for k, s := range x.copies {
		pieces += piecesOfLength(s, i+1, len(x.texts[i]))
		switch x.states[k][i] {
		case isWrong:
			return nil, false
		case isBlotted:
			copies = append(copies, k)
		}
	}
	for _, k := range copies {
		p := blottedPiece(x, k, i)
		if n, is := sheet.Speaks(p); !is || n != i+1 {
			return nil, false
		}
		for j := range seen {
			seen[j] = seen[j] || p[j] != '?'
		}
	}
	return copies, pieces == len(copies) && !slices.Contains(seen, false)
}

// piecesOfLength returns how many pieces of a copy speak of a number, and have a length.
func piecesOfLength(s string, number, length int) int {
	count := 0
	for _, p := range sheet.Pieces(s) {
		if n, is := sheet.Speaks(p); is && n == number && len(p) == length {
			count++
		}
	}
	return count
}

// blottedPiece returns the piece of a copy that is the line with an index, but for blots.
func blottedPiece(x tornSheet, k, i int) string {
	for _, p := range strings.Split(x.copies[k], "\n") {
		same := len(p) == len(x.texts[i])
		for j := 0; same && j < len(p); j++ {
			same = p[j] == '?' || p[j] == x.texts[i][j]
		}
		if same {
			return p
		}
	}
	return ""
}

func TestOrderOfCopies(t *testing.T) {
	r := rand.New(rand.NewPCG(1, 15))
	for range 1000 {
		copies := harmedCopies(t, r, 5)
		b := collate(t, copies...)
		order := r.Perm(len(copies))
		shuffled := make([]string, len(copies))
		for k, from := range order {
			shuffled[k] = copies[from]
		}
		other := collate(t, shuffled...)
		for _, l := range [][]api.Found{b.Lines, other.Lines} {
			for i := range l {
				l[i].Copies = nil
			}
		}
		same := showFound(b.Lines) == showFound(other.Lines) && slices.Equal(b.Gaps, other.Gaps) && len(b.Clashes) == len(other.Clashes)
		if !same {
			t.Fatalf("P1.15: %q: %s, but in the order %v %s", copies, showBook(b), order, showBook(other))
		}
	}
}

func TestFairCopies(t *testing.T) {
	r := rand.New(rand.NewPCG(1, 16))
	restored := 0
	for range 1000 {
		b := collate(t, harmedCopies(t, r, 5)...)
		fair, e := sheet.Fair(b)
		if e != api.OK {
			t.Fatalf("P1.16: Fair of %s: %d", showBook(b), e)
		}
		var want []api.Found
		for _, f := range b.Lines {
			want = append(want, found(f.Line.Number, f.Line.Words, false, 0))
			if f.Restored {
				restored++
			}
		}
		again := collate(t, fair)
		if showFound(again.Lines) != showFound(want) || len(again.Clashes) != 0 {
			t.Fatalf("P1.16: %s is %s in its fair copy", showBook(b), showBook(again))
		}
	}
	if restored < 20 {
		t.Errorf("P1.16: these copies test little: %d lines restored", restored)
	}
}
