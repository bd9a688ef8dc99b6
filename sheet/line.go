package sheet

import (
	"strings"

	"boundstone/api"
)

// Check returns the check of a string.
func Check(s string) int {
	check := 0
	for i := range len(s) {
		check = (check*api.CheckBy + int(s[i])) % api.CheckMod
	}
	return check
}

// Write returns the text of a line.
func Write(l api.Line) (string, api.Errno) {
	if e := checkLine(l); e != api.OK {
		return "", e
	}
	var b strings.Builder
	b.WriteByte(mark)
	b.WriteString(Int(l.Number))
	b.WriteString(blank)
	b.WriteString(Int(len(l.Words)))
	for _, w := range l.Words {
		b.WriteString(blank)
		b.WriteString(w)
	}
	check := fourDigits(Check(b.String()))
	b.WriteString(blank)
	b.WriteString(check)
	return b.String(), api.OK
}

func checkLine(l api.Line) api.Errno {
	if l.Number < 1 || l.Number > api.MaxLines {
		return api.ErrArg
	}
	if len(l.Words) > api.MaxWords {
		return api.ErrLimit
	}
	for _, w := range l.Words {
		if !Word(w) {
			return api.ErrWord
		}
	}
	return api.OK
}

// fourDigits returns a number below 10000 with its leading zeros.
func fourDigits(n int) string { return Int(10000 + n)[1:] }

// Read returns the line with a text.
func Read(s string) (api.Line, api.Errno) {
	l, is := split(s)
	if !is {
		return api.Line{}, api.ErrForm
	}
	text, e := Write(l)
	// The texts are compared as wholes: unnecessary zeros and a wrong number of words make another one.
	if e != api.OK || withoutCheck(text) != withoutCheck(s) {
		return api.Line{}, api.ErrForm
	}
	if text != s {
		return api.Line{}, api.ErrCheck
	}
	return l, api.OK
}

// withoutCheck returns what stands ahead of the last four bytes of a string, of which it has at least four.
func withoutCheck(s string) string { return s[:len(s)-checkDigits] }

// split returns the number and the words that a string has, if it has a number and stops with a blank and four bytes.
func split(s string) (api.Line, bool) {
	if len(s) < checkDigits {
		return api.Line{}, false
	}
	body, is := strings.CutSuffix(withoutCheck(s), blank)
	if !is {
		return api.Line{}, false
	}
	// The number, how many words there are, and the words: of too many, the last one has blanks, and is no word.
	fields := strings.SplitN(body, blank, 2+api.MaxWords)
	if len(fields) < 2 {
		return api.Line{}, false
	}
	number, is := marked(fields[0])
	return api.Line{Number: number, Words: fields[2:]}, is
}

// marked returns the integer that stands behind the mark of a line, if the string is just these.
func marked(s string) (int, bool) {
	digits, is := strings.CutPrefix(s, string(mark))
	n, e := ReadInt(digits)
	return n, is && e == api.OK
}

// Sheet returns the sheet of lines with some words: they are numbered from 1 on.
func Sheet(lines [][]string) (string, api.Errno) {
	if len(lines) > api.MaxLines {
		return "", api.ErrLimit
	}
	numbered := make([]api.Line, len(lines))
	for i, words := range lines {
		numbered[i] = api.Line{Number: i + 1, Words: words}
	}
	return writeAll(numbered)
}

// writeAll returns the texts of lines, each followed by a line feed, or the first error of Write.
func writeAll(lines []api.Line) (string, api.Errno) {
	var b strings.Builder
	for _, l := range lines {
		text, e := Write(l)
		if e != api.OK {
			return "", e
		}
		b.WriteString(text)
		b.WriteString(feed)
	}
	return b.String(), api.OK
}
