package sheet_test

import (
	"math"
	"strconv"
	"strings"
	"testing"

	"boundstone/api"
	"boundstone/sheet"
)

func TestWordBytes(t *testing.T) {
	for c := range 256 {
		want := c >= 33 && c <= 126 && c != '?' && c != '@'
		b := string([]byte{byte(c)})
		for _, s := range []string{b, b + "xy", "x" + b + "y", "xy" + b} {
			if sheet.Word(s) != want {
				t.Errorf("P1.1: Word(%q) is not %v", s, want)
			}
		}
	}
}

func TestWordLength(t *testing.T) {
	for n, want := range map[int]bool{0: false, 1: true, 2: true, 119: true, 120: true, 121: false, 1000: false} {
		if sheet.Word(strings.Repeat("w", n)) != want {
			t.Errorf("P1.1: a string of %d bytes is not %v", n, want)
		}
	}
}

func TestInt(t *testing.T) {
	for n, want := range map[int]string{
		0: "0", 7: "7", -7: "-7", 10: "10", -40: "-40", 400: "400",
		math.MaxInt64: "9223372036854775807", math.MinInt64: "-9223372036854775808",
	} {
		if got := sheet.Int(n); got != want {
			t.Errorf("P1.1: Int(%d) is %q", n, got)
		}
		if got, e := sheet.ReadInt(want); got != n || e != api.OK {
			t.Errorf("P1.1: ReadInt(%q) is %d, %d", want, got, e)
		}
	}
}

func TestReadIntForm(t *testing.T) {
	for _, s := range []string{
		"", "-", "+", "-0", "00", "07", "-07", "+1", "+0", "--1", "1-", " 1", "1 ", "1\n", "1_000", "0x1", "1e3", "1.0", "a", "1a",
		"9223372036854775808", "-9223372036854775809", "18446744073709551616", strings.Repeat("9", 120), "\u0661",
	} {
		if n, e := sheet.ReadInt(s); n != 0 || e != api.ErrForm {
			t.Errorf("P1.1: ReadInt(%q) is %d, %d", s, n, e)
		}
	}
}

func TestText(t *testing.T) {
	var all, hex string
	for c := range 256 {
		all += string([]byte{byte(c)})
		hex += "0123456789abcdef"[c/16:][:1] + "0123456789abcdef"[c%16:][:1]
	}
	texts := map[string]string{"": "=", "ab": "=6162", "\x00\xff": "=00ff", " ?@\n": "=203f400a"}
	for i := 0; i+50 <= 256; i += 50 {
		texts[all[i:i+50]] = "=" + hex[2*i:2*i+100]
	}
	texts[all[206:]] = "=" + hex[412:]
	for s, want := range texts {
		if got, e := sheet.Text(s); got != want || e != api.OK {
			t.Errorf("P1.2: Text(%q) is %q, %d", s, got, e)
		}
		if got, e := sheet.ReadText(want); got != s || e != api.OK {
			t.Errorf("P1.2: ReadText(%q) is %q, %d", want, got, e)
		}
		if !sheet.Word(want) {
			t.Errorf("P1.2: %q is no word", want)
		}
	}
}

func TestTextLimit(t *testing.T) {
	for _, n := range []int{51, 52, 500} {
		if s, e := sheet.Text(strings.Repeat("x", n)); s != "" || e != api.ErrLimit {
			t.Errorf("P1.2: Text of %d bytes is %q, %d", n, s, e)
		}
		if s, e := sheet.ReadText("=" + strings.Repeat("78", n)); s != "" || e != api.ErrForm {
			t.Errorf("P1.2: ReadText of %d bytes is %q, %d", n, s, e)
		}
	}
}

func TestReadTextForm(t *testing.T) {
	for _, s := range []string{"", "61", "x61", "==61", "=6", "=616", "=6A", "=A6", "=6g", "=g6", "=6 ", "= 6", "=6/", "=6:", "=6`", "=61 ", " =61", "=-1", "=6\xff", "=61\n"} {
		if got, e := sheet.ReadText(s); got != "" || e != api.ErrForm {
			t.Errorf("P1.2: ReadText(%q) is %q, %d", s, got, e)
		}
	}
}

func TestWordsRoundTrip(t *testing.T) {
	for i := range 64 {
		for _, n := range []int{1 << i, 1<<i - 1, -1 << i, 1 - 1<<i, 3 << i} {
			s := sheet.Int(n)
			if s != strconv.Itoa(n) || !sheet.Word(s) {
				t.Errorf("P1.11: Int(%d) is %q", n, s)
			}
			if m, e := sheet.ReadInt(s); m != n || e != api.OK {
				t.Errorf("P1.11: ReadInt(%q) is %d, %d", s, m, e)
			}
		}
	}
	alphabet := "-+019af"
	var try func(s string)
	try = func(s string) {
		if n, e := sheet.ReadInt(s); e == api.OK && sheet.Int(n) != s {
			t.Errorf("P1.11: ReadInt takes %q as %d", s, n)
		}
		if got, e := sheet.ReadText("=" + s); e == api.OK {
			if back, _ := sheet.Text(got); back != "="+s {
				t.Errorf("P1.11: ReadText takes %q as %q", "="+s, got)
			}
		}
		if len(s) < 4 {
			for _, c := range alphabet {
				try(s + string(c))
			}
		}
	}
	try("")
}
