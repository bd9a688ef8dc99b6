package register

import (
	"slices"

	"boundstone/api"
	"boundstone/sheet"
)

const books = api.Outer + 1 // how many books there are

// Book returns entries as a sheet.
func Book(l []api.Entry) (string, api.Errno) {
	lines := make([][]string, len(l))
	for i, entry := range l {
		words, e := Words(entry)
		if e != api.OK {
			return "", e
		}
		lines[i] = words
	}
	return sheet.Sheet(lines)
}

// Gather returns the entries of the copies of all books.
func Gather(shelf [][]string) (api.Gathered, api.Errno) {
	if len(shelf) != books {
		return api.Gathered{}, api.ErrArg
	}
	var g api.Gathered
	for vestry, copies := range shelf {
		book, e := sheet.Collate(copies)
		if e != api.OK {
			return api.Gathered{}, e
		}
		gather(&g, vestry, book)
	}
	return g, api.OK
}

// gather adds the entries of a book, and the names of its lines that are lost.
func gather(g *api.Gathered, vestry int, book api.Book) {
	lost := []int{}
	for _, f := range book.Lines {
		entry, e := Read(f.Line.Words)
		if e != api.OK {
			lost = append(lost, f.Line.Number)
			continue
		}
		g.Entries = append(g.Entries, api.Entered{Name: api.Name{Vestry: vestry, Line: f.Line.Number}, Entry: entry})
	}
	for _, f := range book.Clashes {
		lost = append(lost, f.Line.Number)
	}
	for _, gap := range book.Gaps {
		for n := gap.Lo; n <= gap.Hi; n++ {
			lost = append(lost, n)
		}
	}
	slices.Sort(lost)
	for _, n := range slices.Compact(lost) {
		g.Lost = append(g.Lost, api.Name{Vestry: vestry, Line: n})
	}
}
