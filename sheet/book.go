package sheet

import (
	"maps"
	"slices"

	"boundstone/api"
)

// scrap is a piece that speaks of a number.
type scrap struct {
	number int
	text   string
	line   bool // the piece is a line
}

// reading is a line, by its text: two of them are the same line if they are equal.
type reading struct {
	number int
	text   string
}

// placed is a scrap that is no line, and the index of its copy.
type placed struct {
	copy int
	text string
}

// desk is scraps of several copies, by their numbers.
type desk struct {
	last     int // the greatest number
	readings [api.MaxLines + 1][]reading
	copies   map[reading][]int
	others   [api.MaxLines + 1][]placed
}

// Collate puts copies of a sheet together.
func Collate(copies []string) (api.Book, api.Errno) {
	shelf, e := allScraps(copies)
	if e != api.OK {
		return api.Book{}, e
	}
	return collate(shelf), api.OK
}

// allScraps returns the scraps of each copy; ErrLimit if there are too many copies, or one is too long.
func allScraps(copies []string) ([][]scrap, api.Errno) {
	if len(copies) > api.MaxCopies {
		return nil, api.ErrLimit
	}
	for _, s := range copies {
		if len(s) > api.MaxSheet {
			return nil, api.ErrLimit
		}
	}
	shelf := make([][]scrap, len(copies))
	for k, s := range copies {
		shelf[k] = scraps(s)
	}
	return shelf, api.OK
}

// scraps returns the pieces of a copy that speak of a number, in order; its lines are among them.
func scraps(s string) []scrap {
	var l []scrap
	for p := range pieces(s) {
		if n, speaks := Speaks(p); speaks {
			_, e := Read(p)
			l = append(l, scrap{number: n, text: p, line: e == api.OK})
		}
	}
	return l
}

// collate puts the scraps of copies together.
func collate(shelf [][]scrap) api.Book {
	d := lay(shelf)
	var b api.Book
	for n := 1; n <= d.last; n++ {
		found := d.found(n)
		switch len(found) {
		case 0:
			b.Gaps = extend(b.Gaps, n)
		case 1:
			b.Lines = append(b.Lines, found[0])
		default:
			b.Clashes = append(b.Clashes, found...)
		}
	}
	return b
}

// extend returns spans with a number that is greater than all of them.
func extend(l []api.Span, n int) []api.Span {
	if k := len(l) - 1; k >= 0 && l[k].Hi == n-1 {
		l[k].Hi = n
		return l
	}
	return append(l, api.Span{Lo: n, Hi: n})
}

func lay(shelf [][]scrap) *desk {
	d := &desk{copies: map[reading][]int{}}
	for k, l := range shelf {
		for _, s := range l {
			d.add(k, s)
		}
	}
	return d
}

// add lays a scrap of the copy with the index k on the desk, behind all those of the copies ahead of it.
func (d *desk) add(k int, s scrap) {
	d.last = max(d.last, s.number)
	if !s.line {
		d.others[s.number] = append(d.others[s.number], placed{k, s.text})
		return
	}
	r := reading{s.number, s.text}
	if d.copies[r] == nil {
		d.readings[s.number] = append(d.readings[s.number], r)
	}
	d.copies[r] = withLast(d.copies[r], k)
}

// withLast returns indices with one more, which is none of them but perhaps the last one.
func withLast(l []int, k int) []int {
	if len(l) > 0 && l[len(l)-1] == k {
		return l
	}
	return append(l, k)
}

// found returns the readings of a number.
func (d *desk) found(n int) []api.Found {
	if len(d.readings[n]) == 0 {
		return restored(d.others[n])
	}
	var l []api.Found
	for _, r := range d.readings[n] {
		line, _ := Read(r.text)
		l = append(l, api.Found{Line: line, Copies: d.copies[r]})
	}
	return l
}

// restored returns the line that scraps of one number show together, none if there are several.
func restored(l []placed) []api.Found {
	byLength := map[int][]placed{}
	for _, p := range l {
		byLength[len(p.text)] = append(byLength[len(p.text)], p)
	}
	var found []api.Found
	for _, length := range slices.Sorted(maps.Keys(byLength)) {
		if f, is := overlaid(byLength[length]); is {
			found = append(found, f)
		}
	}
	if len(found) > 1 {
		return nil
	}
	return found
}

// overlaid returns the line that scraps of one number and one length show together, if they show one.
func overlaid(l []placed) (api.Found, bool) {
	var texts []string
	var copies []int
	for _, p := range l {
		texts = append(texts, p.text)
		copies = withLast(copies, p.copy)
	}
	text, is := Overlay(texts)
	if !is {
		return api.Found{}, false
	}
	line, e := Read(text) // what all of them say of the number can be read, so that it is that of the line
	if e != api.OK {
		return api.Found{}, false
	}
	return api.Found{Line: line, Copies: copies, Restored: true}, true
}

// Whole returns the words of all lines of a book that has neither gaps nor clashes.
func Whole(b api.Book) ([][]string, api.Errno) {
	if len(b.Clashes) > 0 {
		return nil, api.ErrClash
	}
	if len(b.Gaps) > 0 {
		return nil, api.ErrNone
	}
	var l [][]string
	for i, f := range b.Lines {
		if f.Line.Number != i+1 {
			return nil, api.ErrArg
		}
		l = append(l, slices.Clone(f.Line.Words))
	}
	return l, api.OK
}

// Fair returns a fair copy of the lines of a book.
func Fair(b api.Book) (string, api.Errno) {
	lines := make([]api.Line, len(b.Lines))
	for i, f := range b.Lines {
		lines[i] = f.Line
	}
	return writeAll(lines)
}
