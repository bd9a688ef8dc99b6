package stone_test

import (
	"strings"
	"testing"

	"boundstone/stone"
)

// texts returns all texts of at most so many bytes of some.
func texts(most int, bytes string) []string {
	l := []string{""}
	for i := 0; i < len(l); i++ {
		for _, b := range []byte(bytes) {
			if len(l[i]) < most {
				l = append(l, l[i]+string([]byte{b}))
			}
		}
	}
	return l
}

// isPattern reads a text as the chapter says what a pattern is.
func isPattern(s string) bool {
	for _, b := range []byte(s) {
		if !strings.Contains("ABCDEFGHIJKLMNOPQRSTUVWXYZ.", string([]byte{b})) {
			return false
		}
	}
	return len(s) >= 1 && len(s) <= 8
}

// blendOf returns what patterns tell together place by place, and whether they agree.
func blendOf(p, q string) (string, bool) {
	if !isPattern(p) || !isPattern(q) || len(p) != len(q) {
		return "", false
	}
	var l []byte
	for i := range len(p) {
		switch a, b := p[i], q[i]; {
		case a == '.':
			l = append(l, b)
		case b == '.', a == b:
			l = append(l, a)
		default:
			return "", false
		}
	}
	return string(l), true
}

func checkTexts(t *testing.T, p, q string) {
	t.Helper()
	blend, agree := blendOf(p, q)
	if got := stone.Agree(p, q); got != agree {
		t.Errorf("P5.1: Agree(%q, %q) is %v", p, q, got)
	}
	if got, is := stone.Blend(p, q); got != blend || is != agree {
		t.Errorf("P5.1: Blend(%q, %q) is %q, %v, not %q, %v", p, q, got, is, blend, agree)
	}
	reads := agree && !strings.Contains(p, ".")
	if got := stone.Reads(p, q); got != reads {
		t.Errorf("P5.1: Reads(%q, %q) is %v", p, q, got)
	}
}

func TestLettersAndPatterns(t *testing.T) {
	l := texts(3, "AZ.")
	l = append(l, "a", "@", "[", "A ", " A", "A\n", "?", "0", "-", ",", "/", "\x00", "\xff", "Ä", "A\x80", "ABCDEFGH", "........", "ABCDEFGHI", ".........", "ABCDEFG.", ".BCDEFGH", "XBCDEFGH", "ABCDEFGX", strings.Repeat("A", 1<<16))
	for _, p := range l {
		for _, q := range l {
			checkTexts(t, p, q)
		}
	}
	// All bytes, and each place of a pattern.
	for b := range 256 {
		for i := range 8 {
			s := []byte("ABCDEFGH")
			s[i] = byte(b)
			checkTexts(t, string(s), "........")
			checkTexts(t, "ABCDEFGH", string(s))
			checkTexts(t, string(s), string(s))
		}
	}
}

func TestLettersOfExamples(t *testing.T) {
	for _, x := range []struct {
		p, q, blend string
		agree       bool
	}{
		{"A.", ".B", "AB", true}, {"A.", "A.", "A.", true}, {"..", "..", "..", true}, {"A.", "B.", "", false},
		{"A", "A.", "", false}, {"", "", "", false}, {"A.C.", ".BC.", "ABC.", true}, {"ABCDEFGH", "........", "ABCDEFGH", true},
	} {
		if got, is := stone.Blend(x.p, x.q); got != x.blend || is != x.agree {
			t.Errorf("P5.1: Blend(%q, %q) is %q, %v", x.p, x.q, got, is)
		}
		if is := stone.Agree(x.p, x.q); is != x.agree {
			t.Errorf("P5.1: Agree(%q, %q) is %v", x.p, x.q, is)
		}
	}
	if !stone.Reads("AB", "A.") || stone.Reads("A.", "AB") || stone.Reads("A.", "A.") || stone.Reads("AB", "A") || stone.Reads("AB", "B.") || stone.Reads("", "") {
		t.Error("P5.1: Reads")
	}
}
