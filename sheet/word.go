package sheet

import (
	"strconv"
	"strings"

	"boundstone/api"
)

const (
	textMark  = "=" // begins the word of a text
	hexDigits = "0123456789abcdef"
)

// Word reports whether a string is a word.
func Word(s string) bool {
	if len(s) < 1 || len(s) > api.MaxWord {
		return false
	}
	for i := range len(s) {
		if !wordByte(s[i]) {
			return false
		}
	}
	return true
}

func wordByte(c byte) bool {
	return c >= 33 && c <= 126 && c != blot && c != mark
}

// Int returns an integer as a word.
func Int(n int) string { return strconv.Itoa(n) }

// ReadInt returns the integer that a word is.
func ReadInt(word string) (int, api.Errno) {
	n, err := strconv.Atoi(word)
	if err != nil || Int(n) != word { // Atoi takes leading zeros and a plus sign, too
		return 0, api.ErrForm
	}
	return n, api.OK
}

// Text returns a text as a word.
func Text(s string) (string, api.Errno) {
	if len(s) > api.MaxText {
		return "", api.ErrLimit
	}
	b := []byte(textMark)
	for i := range len(s) {
		b = append(b, hexDigits[s[i]>>4], hexDigits[s[i]&15])
	}
	return string(b), api.OK
}

// ReadText returns the text that a word is.
func ReadText(word string) (string, api.Errno) {
	digits, marked := strings.CutPrefix(word, textMark)
	if !marked || len(digits)%2 != 0 || len(digits) > 2*api.MaxText {
		return "", api.ErrForm
	}
	var b []byte
	for i := 0; i < len(digits); i += 2 {
		high := strings.IndexByte(hexDigits, digits[i])
		low := strings.IndexByte(hexDigits, digits[i+1])
		if high < 0 || low < 0 {
			return "", api.ErrForm
		}
		b = append(b, byte(high<<4|low))
	}
	return string(b), api.OK
}
