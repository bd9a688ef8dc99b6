// Package sheet keeps words on sheets of numbered lines with checks, which are copied, torn and blotted, and puts copies together again. See shared/doc/01-sheet.md.
package sheet

const (
	mark        = '@' // begins the text of a line
	blot        = '?' // could not be read
	blank       = " "
	feed        = "\n"
	checkDigits = 4 // at the end of the text of a line
)
