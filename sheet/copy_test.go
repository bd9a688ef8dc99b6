package sheet_test

import (
	"math/rand/v2"
	"slices"
	"strings"
	"testing"

	"boundstone/api"
	"boundstone/sheet"
)

func TestPieces(t *testing.T) {
	for s, want := range map[string][]string{
		"": nil, "\n": nil, "\n\n\n": nil, "a": {"a"}, "a\n": {"a"}, "\na": {"a"}, "\n\na\nb": {"a", "b"}, "a\n\n\nb\n\n": {"a", "b"},
		"b\na\nb": {"b", "a", "b"}, " \n\r\n\t\n?": {" ", "\r", "\t", "?"}, "a\r\nb\x00c\x85\u2028": {"a\r", "b\x00c\x85\u2028"},
	} {
		if got := sheet.Pieces(s); !slices.Equal(got, want) {
			t.Errorf("P1.5: Pieces(%q) is %q", s, got)
		}
	}
}

func TestLines(t *testing.T) {
	one, two, three := write(t, 1, "a"), write(t, 2, "oak", "beech"), write(t, 3)
	for i, x := range []struct {
		s      string
		lines  []string
		others []string
	}{
		{"", nil, nil},
		{copyOf(one, two, three), []string{one, two, three}, nil},
		{"x\n" + copyOf(three, one) + "y", []string{three, one}, []string{"x", "y"}},
		{"\n\n" + two + "\n\nz\n" + two, []string{two, two}, []string{"z"}},
		{copyOf("y", one[:len(one)-1], "y", one, blotted(two, 7), " "+three, three+" "), []string{one}, []string{"y", one[:len(one)-1], "y", blotted(two, 7), " " + three, three + " "}},
	} {
		lines, others := sheet.Lines(x.s)
		var texts []string
		for _, l := range lines {
			texts = append(texts, write(t, l.Number, l.Words...))
		}
		if !slices.Equal(texts, x.lines) || !slices.Equal(others, x.others) {
			t.Errorf("P1.5: %d: Lines(%q) is %q, %q", i, x.s, texts, others)
		}
	}
}

func TestSpeaks(t *testing.T) {
	for s, want := range map[string]int{
		"@12 3 x": 12, "@12 ": 12, "@1 ": 1, "@400 ": 400, "@7  ": 7, "@7 ?": 7, "@7 @8 ": 7, "@1 0 0076": 1, "@99 0 xxxx\x00": 99,
		"": 0, "@": 0, "@ ": 0, "@ 1 ": 0, "@12": 0, "@0 x": 0, "@401 x": 0, "@012 x": 0, "@00 x": 0, "12 x": 0, " @12 x": 0, "x@12 x": 0, "@@12 x": 0,
		"@1? x": 0, "@?1 x": 0, "?1 x": 0, "@1?": 0, "@-1 x": 0, "@+1 x": 0, "@-0 x": 0, "@1\tx": 0, "@1\n": 0, "@1x ": 0, "@1_0 x": 0, "@0x1 x": 0,
		"@18446744073709551617 x": 0, "@99999999999999999999 x": 0, "@1000 x": 0,
	} {
		if n, is := sheet.Speaks(s); n != want || is != (want > 0) {
			t.Errorf("P1.5: Speaks(%q) is %d, %v", s, n, is)
		}
	}
	for n := 1; n <= 400; n++ {
		if m, is := sheet.Speaks("@" + sheet.Int(n) + " "); m != n || !is {
			t.Errorf("P1.5: Speaks of %d is %d, %v", n, m, is)
		}
	}
}

func TestOverlay(t *testing.T) {
	for i, x := range []struct {
		l    []string
		want string
		is   bool
	}{
		{nil, "", false},
		{[]string{""}, "", true},
		{[]string{"", ""}, "", true},
		{[]string{"", "a"}, "", false},
		{[]string{"?"}, "?", true},
		{[]string{"a?b"}, "a?b", true},
		{[]string{"a?c", "ab?"}, "abc", true},
		{[]string{"ab?", "a?c"}, "abc", true},
		{[]string{"a?", "b?"}, "", false},
		{[]string{"a", "ab"}, "", false},
		{[]string{"ab", "ab", "a"}, "", false},
		{[]string{"??", "??", "??"}, "??", true},
		{[]string{"a??", "?b?", "a??"}, "ab?", true},
		{[]string{"?", "a", "b"}, "", false},
		{[]string{"a", "?", "b"}, "", false},
		{[]string{"a", "b", "?"}, "", false},
		{[]string{"b", "a", "?"}, "", false},
		{[]string{"a", "a", "b"}, "", false},
		{[]string{"b", "a", "a"}, "", false},
		{[]string{"xa", "xb"}, "", false},
		{[]string{"ax", "bx"}, "", false},
		{[]string{"a\x00?\n", "?\x00\xff\n", "a??\n"}, "a\x00\xff\n", true},
		{[]string{"\x00", "\xff"}, "", false},
		{[]string{"\x00", "?"}, "\x00", true},
		{slices.Repeat([]string{"a?"}, 300), "a?", true},
		{append(slices.Repeat([]string{"a?"}, 300), "ab"), "ab", true},
		{append(slices.Repeat([]string{"a?"}, 256), "b?"), "", false},
	} {
		got, is := sheet.Overlay(x.l)
		if got != x.want || is != x.is {
			t.Errorf("P1.7: %d: Overlay is %q, %v", i, got, is)
		}
	}
}

func TestHarms(t *testing.T) {
	const s = "ab\ncd\n\nxyz"
	for _, x := range []struct {
		name string
		l    []api.Harm
		want string
	}{
		{"nothing", nil, s},
		{"lost first", []api.Harm{{Kind: api.HaLost}}, "cd\n\nxyz"},
		{"lost within", []api.Harm{{Kind: api.HaLost, A: 1}}, "ab\n\nxyz"},
		{"lost empty", []api.Harm{{Kind: api.HaLost, A: 2}}, "ab\ncd\nxyz"},
		{"lost last", []api.Harm{{Kind: api.HaLost, A: 3}}, "ab\ncd\n\n"},
		{"lost does not need B and C", []api.Harm{{Kind: api.HaLost, A: 1, B: -5, C: 999}}, "ab\n\nxyz"},
		{"indices stay", []api.Harm{{Kind: api.HaLost, A: 0}, {Kind: api.HaLost, A: 1}, {Kind: api.HaBlot, A: 3, B: 1}}, "\nx?z"},
		{"all lost", []api.Harm{{Kind: api.HaLost, A: 3}, {Kind: api.HaLost, A: 0}, {Kind: api.HaLost, A: 1}, {Kind: api.HaLost, A: 2}}, ""},
		{"lost twice", []api.Harm{{Kind: api.HaLost, A: 1}, {Kind: api.HaLost, A: 1}}, "ab\n\nxyz"},
		{"cut to nothing", []api.Harm{{Kind: api.HaCut, A: 0}}, "\ncd\n\nxyz"},
		{"cut", []api.Harm{{Kind: api.HaCut, A: 3, B: 2}}, "ab\ncd\n\nxy"},
		{"cut behind all", []api.Harm{{Kind: api.HaCut, A: 1, B: 2}, {Kind: api.HaCut, A: 2, B: 0}, {Kind: api.HaCut, A: 3, B: 3}}, s},
		{"cut the last to nothing", []api.Harm{{Kind: api.HaCut, A: 3}, {Kind: api.HaCut, A: 3}}, "ab\ncd\n\n"},
		{"cut does not need C", []api.Harm{{Kind: api.HaCut, A: 0, B: 1, C: -1}}, "a\ncd\n\nxyz"},
		{"blots", []api.Harm{{Kind: api.HaBlot, A: 0, B: 0}, {Kind: api.HaBlot, A: 1, B: 1, C: 256}, {Kind: api.HaBlot, A: 1, B: 1}}, "?b\nc?\n\nxyz"},
		{"wrong", []api.Harm{{Kind: api.HaWrong, A: 3, B: 2, C: 255}, {Kind: api.HaWrong, A: 0, B: 1, C: 0}, {Kind: api.HaWrong, A: 1, B: 0, C: 'C'}}, "a\x00\nCd\n\nxy\xff"},
		{"wrong as it was", []api.Harm{{Kind: api.HaWrong, A: 0, B: 1, C: 'b'}}, s},
		{"a line feed in the content", []api.Harm{{Kind: api.HaWrong, A: 0, B: 1, C: 10}, {Kind: api.HaBlot, A: 1, B: 0}}, "a\n\n?d\n\nxyz"},
		{"a line feed is content", []api.Harm{{Kind: api.HaWrong, A: 3, B: 1, C: 10}, {Kind: api.HaSwapped, A: 3, B: 1}, {Kind: api.HaCut, A: 3, B: 3}, {Kind: api.HaBlot, A: 3, B: 0}}, "ab\ncd\n\n?z\n"},
		{"a line feed is lost", []api.Harm{{Kind: api.HaWrong, A: 0, B: 0, C: 10}, {Kind: api.HaLost, A: 0}}, "cd\n\nxyz"},
		{"swapped", []api.Harm{{Kind: api.HaSwapped, A: 0, B: 0}, {Kind: api.HaSwapped, A: 3, B: 1, C: 700}}, "ba\ncd\n\nxzy"},
		{"one after the other", []api.Harm{{Kind: api.HaSwapped, A: 3, B: 0}, {Kind: api.HaBlot, A: 3, B: 0}, {Kind: api.HaSwapped, A: 3, B: 1}, {Kind: api.HaCut, A: 3, B: 2}}, "ab\ncd\n\n?z"},
		{"lost, and then", []api.Harm{
			{Kind: api.HaLost, A: 1}, {Kind: api.HaCut, A: 1, B: 99}, {Kind: api.HaCut, A: 1, B: -1}, {Kind: api.HaBlot, A: 1, B: 9}, {Kind: api.HaWrong, A: 1, B: 0, C: 256}, {Kind: api.HaSwapped, A: 1, B: -7},
		}, "ab\n\nxyz"},
	} {
		if got, e := sheet.Harmed(s, x.l); got != x.want || e != api.OK {
			t.Errorf("P1.6: %s: %q, %d, not %q", x.name, got, e, x.want)
		}
	}
}

func TestHarmsOfNoParts(t *testing.T) {
	if got, e := sheet.Harmed("", nil); got != "" || e != api.OK {
		t.Errorf("P1.6: %q, %d", got, e)
	}
	if got, e := sheet.Harmed("", []api.Harm{{Kind: api.HaLost}}); got != "" || e != api.ErrArg {
		t.Errorf("P1.6: an empty copy has no parts: %q, %d", got, e)
	}
	if got, e := sheet.Harmed("a\n", []api.Harm{{Kind: api.HaLost, A: 1}}); got != "" || e != api.ErrArg {
		t.Errorf("P1.6: no part is empty: %q, %d", got, e)
	}
	if got, e := sheet.Harmed("\n", []api.Harm{{Kind: api.HaCut}}); got != "\n" || e != api.OK {
		t.Errorf("P1.6: an empty content: %q, %d", got, e)
	}
}

func TestHarmErrors(t *testing.T) {
	const s, far = "ab\n\nxyz", 1<<63 - 1
	lost := api.Harm{Kind: api.HaLost, A: 0}
	for i, l := range [][]api.Harm{
		{{Kind: 0}}, {{Kind: 6}}, {{Kind: -1}}, {{Kind: far}},
		{lost, {Kind: 0}}, {lost, {Kind: 6}},
		{{Kind: api.HaLost, A: -1}}, {{Kind: api.HaLost, A: 3}}, {{Kind: api.HaCut, A: 3}}, {{Kind: api.HaBlot, A: -far}}, {{Kind: api.HaWrong, A: far}}, {{Kind: api.HaSwapped, A: 3}},
		{{Kind: api.HaCut, B: -1}}, {{Kind: api.HaCut, B: 3}}, {{Kind: api.HaCut, A: 1, B: 1}}, {{Kind: api.HaCut, B: far}},
		{{Kind: api.HaBlot, B: -1}}, {{Kind: api.HaBlot, B: 2}}, {{Kind: api.HaBlot, A: 1}}, {{Kind: api.HaBlot, A: 2, B: 3}},
		{{Kind: api.HaWrong, B: -1}}, {{Kind: api.HaWrong, B: 2}}, {{Kind: api.HaWrong, A: 1}}, {{Kind: api.HaWrong, C: -1}}, {{Kind: api.HaWrong, C: 256}},
		{{Kind: api.HaSwapped, B: -1}}, {{Kind: api.HaSwapped, B: 1}}, {{Kind: api.HaSwapped, A: 1}}, {{Kind: api.HaSwapped, A: 1, B: -1}}, {{Kind: api.HaSwapped, A: 2, B: 2}}, {{Kind: api.HaSwapped, B: far}},
		{{Kind: api.HaCut, B: 1}, {Kind: api.HaBlot, B: 1}}, {{Kind: api.HaCut, B: 1}, {Kind: api.HaSwapped, B: 0}}, {{Kind: api.HaCut, B: 1}, {Kind: api.HaCut, B: 2}},
		{{Kind: api.HaBlot, A: 2}, {Kind: api.HaLost, A: 2}, {Kind: api.HaBlot, A: 1}},
	} {
		if got, e := sheet.Harmed(s, l); got != "" || e != api.ErrArg {
			t.Errorf("P1.6: %d: %v: %q, %d", i, l, got, e)
		}
	}
}

func TestHarmLimits(t *testing.T) {
	blots := make([]api.Harm, 200)
	for i := range blots {
		blots[i] = api.Harm{Kind: api.HaBlot, B: i}
	}
	most := strings.Repeat("a", 1<<18)
	if got, e := sheet.Harmed(most, blots); e != api.OK || got != strings.Repeat("?", 200)+most[200:] {
		t.Errorf("P1.6: the most harms of the longest copy: %d", e)
	}
	for i, x := range []struct {
		s string
		l []api.Harm
	}{{"a", make([]api.Harm, 201)}, {most + "a", nil}, {most + "\n", []api.Harm{{Kind: 9, A: -1}}}} {
		if got, e := sheet.Harmed(x.s, x.l); got != "" || e != api.ErrLimit {
			t.Errorf("P1.6: %d: %.20q, %d", i, got, e)
		}
	}
}

func TestHarmsKeepArguments(t *testing.T) {
	l := []api.Harm{{Kind: api.HaBlot, A: 0, B: 0}, {Kind: api.HaLost, A: 1}}
	s := strings.Clone("ab\ncd\n")
	harm(t, s, l...)
	if s != "ab\ncd\n" || l[0] != (api.Harm{Kind: api.HaBlot}) || l[1] != (api.Harm{Kind: api.HaLost, A: 1}) {
		t.Errorf("P1.6: %q, %v", s, l)
	}
}

func TestRandomOverlays(t *testing.T) {
	r := rand.New(rand.NewPCG(1, 7))
	for range 2000 {
		var l []string
		for range 1 + r.IntN(4) {
			l = append(l, randomBytes(r, 3, "???ab"))
		}
		want, is := []byte("???"), true
		for _, p := range l {
			for i := range want {
				if p[i] != '?' && want[i] != '?' && want[i] != p[i] {
					is = false
				} else if p[i] != '?' {
					want[i] = p[i]
				}
			}
		}
		if !is {
			want = nil
		}
		if got, ok := sheet.Overlay(l); got != string(want) || ok != is {
			t.Fatalf("P1.7: Overlay(%q) is %q, %v", l, got, ok)
		}
	}
}
