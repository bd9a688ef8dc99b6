package sheet

import (
	"iter"
	"strings"

	"boundstone/api"
)

// Pieces returns the pieces of a copy, in order.
func Pieces(s string) []string {
	var l []string
	for p := range pieces(s) {
		l = append(l, p)
	}
	return l
}

// pieces yields the pieces of a copy, in order.
func pieces(s string) iter.Seq[string] {
	return func(yield func(string) bool) {
		for p := range strings.SplitSeq(s, feed) {
			if p != "" && !yield(p) {
				return
			}
		}
	}
}

// Lines returns the lines that are pieces of a copy, and all other pieces, each in order.
func Lines(s string) ([]api.Line, []string) {
	var lines []api.Line
	var others []string
	for p := range pieces(s) {
		if l, e := Read(p); e == api.OK {
			lines = append(lines, l)
		} else {
			others = append(others, p)
		}
	}
	return lines, others
}

// Speaks returns the number of which a piece speaks, and whether there is one.
func Speaks(piece string) (int, bool) {
	head, _, found := strings.Cut(piece, blank)
	n, numbered := marked(head)
	if !found || !numbered || n < 1 || n > api.MaxLines {
		return 0, false
	}
	return n, true
}

// Overlay returns the overlay of pieces, and whether there is one.
func Overlay(pieces []string) (string, bool) {
	if len(pieces) == 0 {
		return "", false
	}
	for _, p := range pieces {
		if len(p) != len(pieces[0]) {
			return "", false
		}
	}
	var t tally
	shown := make([]byte, len(pieces[0]))
	for place := range shown {
		c, agree := t.shown(pieces, place)
		if !agree {
			return "", false
		}
		shown[place] = c
	}
	return string(shown), true
}

// tally is how many pieces have each byte at one place; all zeros between two calls of shown.
type tally [256]int

// shown returns the byte that pieces have at a place, a blot if none of them can be read there, and whether all agree that can.
func (t *tally) shown(pieces []string, place int) (byte, bool) {
	c := byte(blot)
	for _, p := range pieces {
		t[p[place]]++
		if p[place] != blot {
			c = p[place]
		}
	}
	agree := c == blot || t[c]+t[blot] == len(pieces)
	for _, p := range pieces {
		t[p[place]] = 0
	}
	return c, agree
}
