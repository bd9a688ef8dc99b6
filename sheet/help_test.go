package sheet_test

import (
	"fmt"
	"math/rand/v2"
	"slices"
	"strings"
	"testing"

	"boundstone/api"
	"boundstone/sheet"
)

// write returns the text of a line.
func write(t *testing.T, number int, words ...string) string {
	t.Helper()
	s, e := sheet.Write(api.Line{Number: number, Words: words})
	if e != api.OK {
		t.Fatalf("Write of %d %q: %d", number, words, e)
	}
	return s
}

// sheetOf returns the sheet of lines with some words.
func sheetOf(t *testing.T, lines ...[]string) string {
	t.Helper()
	s, e := sheet.Sheet(lines)
	if e != api.OK {
		t.Fatalf("Sheet of %q: %d", lines, e)
	}
	return s
}

// harm returns a copy with harms.
func harm(t *testing.T, s string, l ...api.Harm) string {
	t.Helper()
	got, e := sheet.Harmed(s, l)
	if e != api.OK {
		t.Fatalf("Harmed of %q, %v: %d", s, l, e)
	}
	return got
}

// collate returns the book of copies.
func collate(t *testing.T, copies ...string) api.Book {
	t.Helper()
	b, e := sheet.Collate(copies)
	if e != api.OK {
		t.Fatalf("Collate of %q: %d", copies, e)
	}
	return b
}

// blotted returns a string with blots at some places.
func blotted(s string, places ...int) string {
	b := []byte(s)
	for _, i := range places {
		b[i] = '?'
	}
	return string(b)
}

// copyOf returns a copy with some pieces.
func copyOf(pieces ...string) string {
	var b strings.Builder
	for _, p := range pieces {
		b.WriteString(p + "\n")
	}
	return b.String()
}

// showLine writes a line such that lines are shown alike exactly if they are the same.
func showLine(l api.Line) string { return fmt.Sprintf("%d%q", l.Number, l.Words) }

// showFound writes what was found, with the copies.
func showFound(l []api.Found) string {
	var b strings.Builder
	for _, f := range l {
		fmt.Fprintf(&b, "%s in %v", showLine(f.Line), f.Copies)
		if f.Restored {
			b.WriteString(" restored")
		}
		b.WriteString("; ")
	}
	return b.String()
}

// showBook writes a book.
func showBook(b api.Book) string {
	return fmt.Sprintf("lines %s clashes %s gaps %v", showFound(b.Lines), showFound(b.Clashes), append([]api.Span{}, b.Gaps...))
}

// randomBytes returns a string of n of some bytes.
func randomBytes(r *rand.Rand, n int, from string) string {
	b := make([]byte, n)
	for i := range b {
		b[i] = from[r.IntN(len(from))]
	}
	return string(b)
}

// randomWords returns up to n words.
func randomWords(r *rand.Rand, n int) []string {
	var l []string
	for range r.IntN(n + 1) {
		l = append(l, randomBytes(r, 1+r.IntN(6), "ab1289=-~!"))
	}
	return l
}

// readings returns the readings of a number, straight from the chapter's words, and slowly.
func readings(copies []string, n int) []api.Found {
	if l := lineReadings(copies, n); len(l) > 0 {
		return l
	}
	byLength := map[int][]string{}
	from := map[int][]int{}
	for k, s := range copies {
		for _, p := range sheet.Pieces(s) {
			if m, is := sheet.Speaks(p); is && m == n {
				byLength[len(p)] = append(byLength[len(p)], p)
				from[len(p)] = append(from[len(p)], k)
			}
		}
	}
	var l []api.Found
	for length, pieces := range byLength {
		text, is := sheet.Overlay(pieces)
		if line, e := sheet.Read(text); is && e == api.OK && line.Number == n {
			l = append(l, api.Found{Line: line, Copies: slices.Compact(from[length]), Restored: true})
		}
	}
	if len(l) != 1 {
		return nil
	}
	return l
}

// lineReadings returns the different lines with a number that are pieces of copies.
func lineReadings(copies []string, n int) []api.Found {
	var l []api.Found
	for k, s := range copies {
		lines, _ := sheet.Lines(s)
		for _, line := range lines {
			if line.Number != n {
				continue
			}
			i := slices.IndexFunc(l, func(f api.Found) bool { return showLine(f.Line) == showLine(line) })
			if i < 0 {
				l = append(l, api.Found{Line: line, Copies: []int{k}})
			} else if !slices.Contains(l[i].Copies, k) {
				l[i].Copies = append(l[i].Copies, k)
			}
		}
	}
	return l
}

// bookOf returns what Collate has to return for copies, by their readings.
func bookOf(copies []string) api.Book {
	var b api.Book
	last := 0
	for _, s := range copies {
		for _, p := range sheet.Pieces(s) {
			if n, is := sheet.Speaks(p); is {
				last = max(last, n)
			}
		}
	}
	for n := 1; n <= last; n++ {
		l := readings(copies, n)
		switch {
		case len(l) == 1:
			b.Lines = append(b.Lines, l[0])
		case len(l) > 1:
			b.Clashes = append(b.Clashes, l...)
		case len(b.Gaps) > 0 && b.Gaps[len(b.Gaps)-1].Hi == n-1:
			b.Gaps[len(b.Gaps)-1].Hi = n
		default:
			b.Gaps = append(b.Gaps, api.Span{Lo: n, Hi: n})
		}
	}
	return b
}
