package sheet_test

import (
	"math/big"
	"math/rand/v2"
	"slices"
	"strings"
	"testing"

	"boundstone/api"
	"boundstone/sheet"
)

func TestCheck(t *testing.T) {
	every := make([]byte, 256)
	for i := range every {
		every[i] = byte(i)
	}
	for s, want := range map[string]int{
		"": 0, "a": 97, "ab": 1747, "ba": 1763, "\x00": 0, "\x00a": 97, "@1 0": 76,
		"\xff\xff\xff": 8474, strings.Repeat("~", 120): 2409, string(every): 1660,
	} {
		if got := sheet.Check(s); got != want {
			t.Errorf("P1.3: Check(%q) is %d, not %d", s, got, want)
		}
	}
	long := strings.Repeat(string(every), 40)
	sum := new(big.Int)
	for i := range len(long) {
		sum.Add(sum.Mul(sum, big.NewInt(17)), big.NewInt(int64(long[i])))
	}
	if want := int(sum.Mod(sum, big.NewInt(9973)).Int64()); sheet.Check(long) != want {
		t.Errorf("P1.3: Check of a long string is %d, not %d", sheet.Check(long), want)
	}
}

func TestWrite(t *testing.T) {
	for want, l := range map[string]api.Line{
		"@1 0 0076":        {Number: 1},
		"@7 2 oak 12 6311": {Number: 7, Words: []string{"oak", "12"}},
		"@400 1 ~! 9431":   {Number: 400, Words: []string{"~!"}},
		"@34 2 x y 0009":   {Number: 34, Words: []string{"x", "y"}},
		"@1 1 w8174 0000":  {Number: 1, Words: []string{"w8174"}},
	} {
		if got, e := sheet.Write(l); got != want || e != api.OK {
			t.Errorf("P1.3: Write(%v) is %q, %d, not %q", l, got, e, want)
		}
		if got, e := sheet.Read(want); showLine(got) != showLine(l) || e != api.OK {
			t.Errorf("P1.3: Read(%q) is %v, %d", want, got, e)
		}
	}
	if got := write(t, 1, []string{}...); got != "@1 0 0076" {
		t.Errorf("P1.3: no words: %q", got)
	}
}

func TestWriteLimits(t *testing.T) {
	long := strings.Repeat("w", 120)
	words := slices.Repeat([]string{long}, 40)
	s := write(t, 400, words...)
	if len(s) != len("@400 40")+40*121+5 || !strings.HasPrefix(s, "@400 40 "+long+" ") {
		t.Errorf("P1.3: the longest line: %q", s)
	}
	if l, e := sheet.Read(s); e != api.OK || l.Number != 400 || !slices.Equal(l.Words, words) {
		t.Errorf("P1.3: Read of the longest line: %v, %d", l, e)
	}
}

func TestWriteErrors(t *testing.T) {
	many := slices.Repeat([]string{"w"}, 41)
	wrong := slices.Repeat([]string{"a b"}, 41)
	for i, x := range []struct {
		l api.Line
		e api.Errno
	}{
		{api.Line{}, api.ErrArg},
		{api.Line{Number: -1}, api.ErrArg},
		{api.Line{Number: 401}, api.ErrArg},
		{api.Line{Number: 1 << 62}, api.ErrArg},
		{api.Line{Number: 0, Words: wrong}, api.ErrArg},
		{api.Line{Number: 401, Words: []string{""}}, api.ErrArg},
		{api.Line{Number: 1, Words: many}, api.ErrLimit},
		{api.Line{Number: 1, Words: wrong}, api.ErrLimit},
		{api.Line{Number: 1, Words: []string{""}}, api.ErrWord},
		{api.Line{Number: 1, Words: []string{"a", "b", "a b"}}, api.ErrWord},
		{api.Line{Number: 1, Words: []string{"a?", "b"}}, api.ErrWord},
		{api.Line{Number: 1, Words: []string{"@"}}, api.ErrWord},
		{api.Line{Number: 1, Words: []string{strings.Repeat("w", 121)}}, api.ErrWord},
		{api.Line{Number: 400, Words: many[:40]}, api.OK},
	} {
		s, e := sheet.Write(x.l)
		if e != x.e || (s == "") != (e != api.OK) {
			t.Errorf("P1.3: %d: %q, %d, not %d", i, s, e, x.e)
		}
	}
}

// checked returns a string with a blank and its check behind it, whether it is right or not.
func checked(s string) string {
	n := sheet.Check(s)
	return s + " " + string([]byte{byte('0' + n/1000), byte('0' + n/100%10), byte('0' + n/10%10), byte('0' + n%10)})
}

func TestReadForm(t *testing.T) {
	long := strings.Repeat("w", 121)
	for _, s := range []string{
		"", "@", "123", "1234", " 1234", "@1 0", "@1 0 115", "@1 0 0076 ", " @1 0 0076", "@1 0 0076\n", "@1 0  0076", "@1 00076", "@1  0 0076",
		"@01 0 1158", "@1 1 1158", "@1 0 00076", "@1 0 76",
		checked("@01 0"), checked("@1 00"), checked("@1 01 a"), checked("@+1 0"), checked("@-1 0"), checked("@0 0"), checked("@401 0"), checked("@1 -0"),
		checked("1 0"), checked("@@1 0"), checked("@1"), checked("@"), checked(""), checked("@1 "), checked("@ 1 0"), checked("@1  0"), checked("@1 0 "),
		checked("@1 1"), checked("@1 0 a"), checked("@1 2 a"), checked("@1 1 a b"), checked("@1 1  a"), checked("@1 1 a "), checked("@1 2 a  b"), checked("@1 1 "),
		checked("@1 1 a?"), checked("@1 1 @"), checked("@1 1 \x7f"), checked("@1 1 \x80"), checked("@1 1 a\tb"), checked("@1 1 " + long), checked("@1\t0"),
		checked("@1 41" + strings.Repeat(" w", 41)), checked("@1 40" + strings.Repeat(" w", 41)), checked("@1 41" + strings.Repeat(" w", 40)), checked("@1 x a"), checked("@x 0"),
		checked("@1 18446744073709551617 a"), checked("@18446744073709551617 0"),
		checked("@1 100000" + strings.Repeat(" ", 100000)),
		"@1 1 a?1234", "@1 0 \n0076", "@1 0 007", "@1 0 6",
	} {
		if l, e := sheet.Read(s); e != api.ErrForm || showLine(l) != showLine(api.Line{}) {
			t.Errorf("P1.3: Read(%.80q) is %v, %d", s, l, e)
		}
	}
}

func TestReadCheck(t *testing.T) {
	for _, s := range []string{
		"@1 0 0000", "@1 0 0077", "@1 0 9999", "@1 0 xxxx", "@1 0 ????", "@1 0   76", "@1 0 +076", "@1 0 -076", "@1 0 076 ", "@1 0 \n\n\n\n", "@1 0 \x00\x00\x00\x00",
		"@1 0 0a76", "@7 2 oak 12 6312", "@7 2 oak 13 6311", "@7 2 oak 12 1631", "@7 2 oak 12 @@@@", "@7 2 aok 12 6311", "@6 2 oak 12 6311",
	} {
		if l, e := sheet.Read(s); e != api.ErrCheck || showLine(l) != showLine(api.Line{}) {
			t.Errorf("P1.3: Read(%q) is %v, %d", s, l, e)
		}
	}
}

func TestSheet(t *testing.T) {
	for want, lines := range map[string][][]string{
		"":            {},
		"@1 0 0076\n": {nil},
		"@1 0 0076\n" + write(t, 2, "oak", "beech") + "\n" + write(t, 3) + "\n": {{}, {"oak", "beech"}, {}},
	} {
		if got, e := sheet.Sheet(lines); got != want || e != api.OK {
			t.Errorf("P1.4: Sheet(%q) is %q, %d", lines, got, e)
		}
	}
	most := make([][]string, 400)
	for i := range most {
		most[i] = []string{sheet.Int(i), "w"}
	}
	var want strings.Builder
	for i := range most {
		want.WriteString(write(t, i+1, most[i]...) + "\n")
	}
	if got, e := sheet.Sheet(most); got != want.String() || e != api.OK {
		t.Errorf("P1.4: 400 lines: %d", e)
	}
}

func TestSheetErrors(t *testing.T) {
	many := slices.Repeat([]string{"w"}, 41)
	bad := []string{"a b"}
	for i, x := range []struct {
		lines [][]string
		e     api.Errno
	}{
		{make([][]string, 401), api.ErrLimit},
		{slices.Repeat([][]string{bad}, 401), api.ErrLimit},
		{[][]string{{"a"}, bad, many}, api.ErrWord},
		{[][]string{{"a"}, many, bad}, api.ErrLimit},
		{[][]string{append([]string{""}, many...)}, api.ErrLimit},
		{[][]string{{"a"}, {}, {""}}, api.ErrWord},
	} {
		if s, e := sheet.Sheet(x.lines); s != "" || e != x.e {
			t.Errorf("P1.4: %d: %q, %d, not %d", i, s, e, x.e)
		}
	}
}

func TestLinesRoundTrip(t *testing.T) {
	r := rand.New(rand.NewPCG(1, 11))
	for range 300 {
		l := api.Line{Number: 1 + r.IntN(400), Words: randomWords(r, 40)}
		s := write(t, l.Number, l.Words...)
		got, e := sheet.Read(s)
		if e != api.OK || showLine(got) != showLine(l) {
			t.Fatalf("P1.11: Read(%q) is %v, %d", s, got, e)
		}
	}
	for range 20000 {
		s := checked("@" + randomBytes(r, 2+r.IntN(7), "0112 ab?@"))
		if l, e := sheet.Read(s); e == api.OK && write(t, l.Number, l.Words...) != s {
			t.Fatalf("P1.11: Read takes %q as %v", s, l)
		}
	}
}

func TestOneMistake(t *testing.T) {
	for _, s := range []string{
		write(t, 1), write(t, 12, "1", "2"), write(t, 3, "1"), write(t, 7, "oak", "12"), write(t, 34, "x", "y"), write(t, 1, "w8174"), write(t, 400, "=6162", "-40", "~~!!"),
		write(t, 10, slices.Repeat([]string{"11"}, 11)...),
	} {
		for i := range s {
			for c := range 256 {
				b := []byte(s)
				b[i] = byte(c)
				if l, e := sheet.Read(string(b)); (e == api.OK) != (string(b) == s) {
					t.Errorf("P1.12: %q for %q is read as %v, %d", b, s, l, e)
				}
			}
			b := []byte(s)
			if i > 0 && b[i-1] != b[i] {
				b[i-1], b[i] = b[i], b[i-1]
				if l, e := sheet.Read(string(b)); e == api.OK {
					t.Errorf("P1.12: %q for %q is read as %v", b, s, l)
				}
			}
			if l, e := sheet.Read(s[:i]); e == api.OK {
				t.Errorf("P1.12: %q of %q is read as %v", s[:i], s, l)
			}
		}
	}
}

func TestLinesAreNew(t *testing.T) {
	words := []string{"oak", "elm"}
	s := write(t, 1, words...)
	l, _ := sheet.Read(s)
	l.Words[0] = "ash"
	again, _ := sheet.Read(s)
	if !slices.Equal(words, []string{"oak", "elm"}) || !slices.Equal(again.Words, words) {
		t.Errorf("P1.3: results share memory: %q, %q", words, again.Words)
	}
}
