package stone

import (
	"strings"

	"boundstone/api"
)

const unread = '.' // stands for a letter that could not be read

func isPattern(s string) bool {
	strange := func(r rune) bool { return r != unread && (r < 'A' || r > 'Z') }
	return within(api.Span{Lo: 1, Hi: api.MaxLetters}, len(s)) && !strings.ContainsFunc(s, strange)
}

func isLetters(s string) bool { return isPattern(s) && strings.IndexByte(s, unread) < 0 }

// Reads reports whether letters can be read as a pattern.
func Reads(letters, pattern string) bool { return isLetters(letters) && Agree(letters, pattern) }

// Agree reports whether two patterns can be of the same letters.
func Agree(p, q string) bool {
	if !isPattern(p) || !isPattern(q) || len(p) != len(q) {
		return false
	}
	for i := range len(p) {
		if p[i] != q[i] && p[i] != unread && q[i] != unread {
			return false
		}
	}
	return true
}

// Blend returns what two patterns tell together.
func Blend(p, q string) (string, bool) {
	if !Agree(p, q) {
		return "", false
	}
	l := []byte(p)
	for i := range l {
		if l[i] == unread {
			l[i] = q[i]
		}
	}
	return string(l), true
}

// together does what Blend does, but the second pattern may be empty: that of any letters.
func together(p, q string) (string, bool) {
	if q == "" || p == q {
		return p, true
	}
	return Blend(p, q)
}

// lettersOf returns letters that can be read as a pattern.
func lettersOf(pattern string) string {
	return strings.ReplaceAll(pattern, string(unread), "A")
}
