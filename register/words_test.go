package register_test

import (
	"fmt"
	"math"
	"math/rand/v2"
	"slices"
	"strconv"
	"strings"
	"testing"

	"boundstone/api"
	"boundstone/register"
	"boundstone/sheet"
)

// written is entries of all kinds, with their words.
func written() map[string]api.Entry {
	s := api.Sight{Year: 1710, At: box(-4, 9, 3, 20), Letters: ".B", Height: span(5, 25)}
	l := leg(1, 3, api.North, 1710, 437, 2)
	l.Measure.Chain = 7
	left, right := api.Offset{A: 1, B: 2, C: 3, Left: true}, api.Offset{A: 3, B: 2, C: 1}
	fifty := strings.Repeat("p.", 25)
	return map[string]api.Entry{
		"1700 chain 3 1650 9990 10010 5":                in(1700, chain(3, 1650, 9990, 10010, 5)),
		"1700 proof 3 1660 9999 10001":                  in(1700, proof(3, 1660, 9999, 10001)),
		"0 repair 3 1670 9998 10002":                    in(0, repair(3, 1670, 9998, 10002)),
		"1700 stone 8 10 3 1 1710 -4 9 3 20 =2e42 5 25": in(1700, api.Entry{Kind: api.EnStone, Stone: 8, Habit: api.Habit{Step: 10, Place: 3, Sink: 1}, Sight: s}),
		"1700 sight 8 1710 -4 9 3 20 =2e42 5 25":        in(1700, api.Entry{Kind: api.EnSight, Stone: 8, Sight: s}),
		"4000 note 8 2 1700 1705":                       in(4000, note(8, api.GaReplaced, 1700, 1705)),
		"1700 bounds 2 5 4 9":                           in(1700, bounds(2, 5, 4, 9)),
		"1700 bounds 2":                                 in(1700, bounds(2)),
		"1700 witness 5 80 3":                           in(1700, witness(5, 80, 3)),
		"1711 walk 5 1710 0":                            in(1711, walked(5, 1710)),
		"1711 walk 5 1710 1 1 3 1 7 4 37 2":             in(1711, walked(5, 1710, l)),
		"1711 walk 5 1710 2 1 3 1 7 4 37 2 2 3 -1 1 0 5 0 1 2 3 1 3 2 1 0": in(1711, api.Entry{Kind: api.EnWalk, By: 5, Walk: api.Walk{
			Year: 1710, Legs: []api.Leg{l, leg(2, 3, -1, 1710, 5, 0)}, Offsets: []api.Offset{left, right}}}),
		"1711 walk 5 1710 0 1 2 3 1":                                    in(1711, api.Entry{Kind: api.EnWalk, By: 5, Walk: api.Walk{Year: 1710, Offsets: []api.Offset{left}}}),
		"1700 field 4 30 -20 50":                                        in(1700, field(4, 30, -20, 50)),
		"1700 paid 4 1699 2 17":                                         in(1700, paid(4, 1699, 2, 17)),
		"1700 custom 1715 1730":                                         in(1700, rule(1715, 1730, "")),
		"1700 custom 1715 1730 =702e":                                   in(1700, rule(1715, 1730, "p.")),
		"1700 custom 1715 1730 =" + strings.Repeat("702e", 25):          in(1700, rule(1715, 1730, fifty)),
		"1700 custom 1715 1730 =" + strings.Repeat("702e", 25) + " =0a": in(1700, rule(1715, 1730, fifty+"\n")),
		"1701 claim 4 1702 1705":                                        in(1701, claim(4, 1702, 1705)),
		"1705 answer 1 2":                                               in(1705, answer(1, 2)),
		"1705 ruling 1 2 2":                                             in(1705, ruling(1, 2, 2)),
		"1700 back 3":                                                   in(1700, back(3)),
	}
}

func TestWords(t *testing.T) {
	for text, e := range written() {
		l, err := register.Words(e)
		if err != api.OK || strings.Join(l, " ") != text {
			t.Errorf("P9.1: Words of %v is %q, %d, not %q", e, l, err, text)
		}
		got, err := register.Read(words(text))
		if err != api.OK || !same(got, e) {
			t.Errorf("P9.1: Read of %q is %v, %d, not %v", text, got, err, e)
		}
	}
}

// patterns of the words behind the name of a kind: i is an integer, t a text; after a slash may stand more of the same.
func patternOf(name string) (string, bool) {
	p, is := map[string]string{
		"chain": "iiiii", "proof": "iiii", "repair": "iiii", "stone": "iiiiiiiiitii", "sight": "iiiiiitii", "note": "iiii", "bounds": "i/i", "witness": "iii",
		"walk": "iii/i", "field": "iiii", "paid": "iiii", "custom": "ii/t", "claim": "iii", "answer": "ii", "ruling": "iii", "back": "i",
	}[name]
	return p, is
}

func slowInt(word string) (int, bool) {
	n, err := strconv.ParseInt(word, 10, 64)
	return int(n), err == nil && fmt.Sprint(n) == word
}

// slowText returns how many bytes the text that a word is has, and whether there is one.
func slowText(word string) (int, bool) {
	digits, is := strings.CutPrefix(word, "=")
	return len(digits) / 2, is && len(digits)%2 == 0 && len(digits) <= 100 && strings.Trim(digits, "0123456789abcdef") == ""
}

// fits reports whether words are as a pattern says, and returns the integers, and the lengths of the texts.
func fits(l []string, pattern string) (ints, lengths []int, is bool) {
	first, more, _ := strings.Cut(pattern, "/")
	if len(l) < len(first) {
		return nil, nil, false
	}
	first += strings.Repeat(more, len(l)-len(first))
	if len(l) != len(first) {
		return nil, nil, false
	}
	for i, c := range first {
		n, is := slowText(l[i])
		if c == 'i' {
			n, is = slowInt(l[i])
			ints = append(ints, n)
		} else {
			lengths = append(lengths, n)
		}
		if !is {
			return nil, nil, false
		}
	}
	return ints, lengths, true
}

// isEntry reports whether words are those of a formed entry, by the chapter's table.
func isEntry(l []string) bool {
	if len(l) < 2 || len(l) > 40 {
		return false
	}
	year, is := slowInt(l[0])
	pattern, known := patternOf(l[1])
	if !is || year < 0 || year > lastYear || !known {
		return false
	}
	ints, lengths, is := fits(l[2:], pattern)
	if !is {
		return false
	}
	line := func(n int) bool { return n >= 1 && n <= lastLine }
	switch l[1] {
	case "walk":
		return isWalk(ints)
	case "custom":
		last := len(lengths) - 1
		return last < 0 || lengths[last] > 0 && !slices.ContainsFunc(lengths[:last], func(n int) bool { return n != 50 })
	case "answer", "ruling":
		return line(ints[1])
	case "back":
		return line(ints[0])
	}
	return true
}

// isWalk reports whether numbers are the witness, the year, how many legs there are, seven numbers for each, and four for each offset.
func isWalk(ints []int) bool {
	legs, rest := ints[2], ints[3:]
	if legs < 0 || legs > len(rest)/7 || (len(rest)-7*legs)%4 != 0 {
		return false
	}
	rest = rest[7*legs:]
	for i := 3; i < len(rest); i += 4 {
		if rest[i] != 0 && rest[i] != 1 {
			return false
		}
	}
	return true
}

// checkRead compares Read with the chapter's table, and reports whether words are an entry.
func checkRead(t *testing.T, l []string) bool {
	t.Helper()
	given := slices.Clone(l)
	e, err := register.Read(l)
	if !slices.Equal(l, given) {
		t.Errorf("R6: Read changes %q", given)
	}
	if !isEntry(l) {
		wantError(t, fmt.Sprintf("P9.1: Read of %q", l), api.ErrForm, e, err)
		return false
	}
	again, f := register.Words(e)
	if err != api.OK || register.CheckEntry(e) != api.OK || f != api.OK || !slices.Equal(again, l) {
		t.Errorf("P9.12: Read of %q is %v, %d, whose words are %q, %d", l, e, err, again, f)
	}
	return true
}

// spoilt returns words with some change.
func spoilt(r *rand.Rand, l []string) []string {
	l = slices.Clone(l)
	i := r.IntN(len(l))
	others := []string{"0", "1", "-1", "7", "400", "401", "4001", "=", "=61", "=6", "=6A", "07", "-0", "+1", "", "x", "back", "walk", "custom", "9223372036854775807", "9223372036854775808", "-9223372036854775808", "=" + strings.Repeat("61", 50), "=" + strings.Repeat("61", 51)}
	switch r.IntN(5) {
	case 0:
		return slices.Delete(l, i, i+1)
	case 1:
		return slices.Insert(l, i, others[r.IntN(len(others))])
	case 2:
		j := r.IntN(len(l))
		l[i], l[j] = l[j], l[i]
	case 3:
		l[i] += others[r.IntN(len(others))]
	default:
		l[i] = others[r.IntN(len(others))]
	}
	return l
}

func TestReadOfOtherWords(t *testing.T) {
	for _, s := range []string{"1700 back 03", "1700 back 3 4", "1700 backs 3", "1700 back", "1700", "", "back 3", "1700 Back 3", "1700 back 0", "1700 back 401", "-1 back 3", "4001 back 3", "01700 back 3", "1700 back =33", "1700 walk 5 1710 -1", "1700 walk 5 1710 1 1 3 1 7 4 37", "1700 walk 5 1710 0 1 2 3", "1700 walk 5 1710 0 1 2 3 2", "1700 walk 5 1710 1 1 2 3 1", "1700 walk 5 1710 9223372036854775807", "1700 custom 1 2 =", "1700 custom 1 2 =61 =61", "1700 custom 1 2 61", "1700 sight 8 1710 -4 9 3 20 42 5 25", "1700 sight 8 1710 -4 9 3 20 =2E 5 25"} {
		if checkRead(t, words(s)) {
			t.Errorf("P9.1: %q should be no entry", s)
		}
	}
	for _, l := range [][]string{nil, {}, {""}, {"1700", ""}, {"1700", "back", ""}, {"1700 back 3"}, {"1700", "back", " 3"}} {
		if checkRead(t, l) {
			t.Errorf("P9.1: %q should be no entry", l)
		}
	}
	r := newRand(9, 1)
	var samples [][]string
	for text := range written() {
		samples = append(samples, words(text))
	}
	slices.SortFunc(samples, slices.Compare)
	n := map[bool]int{}
	for range 100000 {
		l := samples[r.IntN(len(samples))]
		for range 1 + r.IntN(2) {
			if len(l) > 0 {
				l = spoilt(r, l)
			}
		}
		n[checkRead(t, l)]++
	}
	if min(n[true], n[false]) < 10000 {
		t.Errorf("P9.1: these words test little: %v", n)
	}
}

// randomEntry returns a formed entry whose words are not too many.
func randomEntry(r *rand.Rand) api.Entry {
	e := sample(kinds[r.IntN(len(kinds))])
	e.Written = r.IntN(lastYear + 1)
	anyOf := func(fields ...*int) {
		for _, f := range fields {
			*f = []int{0, 1, -1, r.IntN(10), r.IntN(4001), int(r.Uint64()), math.MaxInt64, math.MinInt64}[r.IntN(8)]
		}
	}
	text := func(most int) string {
		b := make([]byte, r.IntN(most+1))
		for i := range b {
			b[i] = byte(r.IntN(256))
		}
		return string(b)
	}
	switch e.Kind {
	case api.EnChain:
		anyOf(&e.Chain.ID, &e.Chain.Year, &e.Chain.Made.Lo, &e.Chain.Made.Hi, &e.Chain.Wear)
	case api.EnStone, api.EnSight:
		anyOf(&e.Stone, &e.Sight.Year, &e.Sight.At.X.Lo, &e.Sight.At.X.Hi, &e.Sight.At.Y.Lo, &e.Sight.At.Y.Hi, &e.Sight.Height.Lo, &e.Sight.Height.Hi)
		e.Sight.Letters = text(50)
	case api.EnBounds:
		e.Ring = make([]int, r.IntN(38))
		for i := range e.Ring {
			anyOf(&e.Ring[i])
		}
	case api.EnWalk:
		e.Walk = randomWalk(r, anyOf)
	case api.EnCustom:
		anyOf(&e.Rule.From, &e.Rule.To)
		e.Rule.Source = text([]int{4, 200, 1800}[r.IntN(3)])
	case api.EnAnswer, api.EnRuling:
		anyOf(&e.Target.Vestry)
		e.Target.Line = 1 + r.IntN(lastLine)
	}
	return e
}

// randomWalk returns a walk with at most five legs and offsets, whose numbers are any ones.
func randomWalk(r *rand.Rand, anyOf func(fields ...*int)) api.Walk {
	var w api.Walk
	anyOf(&w.Year)
	for range r.IntN(4) {
		g := api.Leg{Measure: api.Measure{Year: w.Year}}
		anyOf(&g.From, &g.To, &g.Quarter, &g.Measure.Chain, &g.Measure.Chains, &g.Measure.Links, &g.Measure.Slack)
		w.Legs = append(w.Legs, g)
	}
	for range r.IntN(4) {
		o := api.Offset{Left: r.IntN(2) == 0}
		anyOf(&o.A, &o.B, &o.C)
		w.Offsets = append(w.Offsets, o)
	}
	return w
}

func TestReadOfWordsIsTheEntry(t *testing.T) {
	r := newRand(9, 2)
	for range 20000 {
		e := randomEntry(r)
		l, err := register.Words(e)
		if err != api.OK || !isEntry(l) || slices.ContainsFunc(l, func(s string) bool { return !sheet.Word(s) }) {
			t.Fatalf("P9.1: Words of %v is %q, %d", e, l, err)
		}
		if got, err := register.Read(l); err != api.OK || !same(got, e) {
			t.Fatalf("P9.12: Read of %q is %v, %d, not %v", l, got, err, e)
		}
	}
}

func TestWordsAtTheLimits(t *testing.T) {
	letters := func(kind, n int) api.Entry {
		e := sample(kind)
		e.Sight.Letters = strings.Repeat("A", n)
		return e
	}
	legs := func(n, offsets int) api.Entry {
		e := walked(1, 1700, slices.Repeat([]api.Leg{leg(1, 2, 0, 1700, 5, 0)}, n)...)
		e.Walk.Offsets = slices.Repeat([]api.Offset{{A: 1, B: 2, C: 3}}, offsets)
		return e
	}
	for _, x := range []struct {
		e    api.Entry
		want api.Errno
	}{
		{letters(api.EnStone, 50), api.OK}, {letters(api.EnStone, 51), api.ErrLimit}, {letters(api.EnStone, 5000), api.ErrLimit},
		{letters(api.EnSight, 50), api.OK}, {letters(api.EnSight, 51), api.ErrLimit},
		{bounds(0, make([]int, 37)...), api.OK}, {bounds(0, make([]int, 38)...), api.ErrLimit}, {bounds(0, make([]int, 5000)...), api.ErrLimit},
		{legs(5, 0), api.OK}, {legs(5, 1), api.ErrLimit}, {legs(6, 0), api.ErrLimit}, {legs(1, 7), api.OK}, {legs(0, 8), api.OK}, {legs(0, 9), api.ErrLimit}, {legs(3, 3), api.OK}, {legs(3, 4), api.ErrLimit},
		{rule(1, 2, strings.Repeat("x", 1800)), api.OK}, {rule(1, 2, strings.Repeat("x", 1801)), api.ErrLimit}, {rule(1, 2, strings.Repeat("x", 6000)), api.ErrLimit},
	} {
		l, e := register.Words(x.e)
		wantError(t, fmt.Sprintf("P9.1: Words of an entry of the kind %d", x.e.Kind), x.want, l, e)
		if x.want == api.OK && !isEntry(l) {
			t.Errorf("P9.1: Words of an entry of the kind %d at the limit is %q", x.e.Kind, l)
		}
		if f := register.CheckEntry(x.e); f != api.OK {
			t.Errorf("P9.1: CheckEntry of an entry of the kind %d with too many words is %d", x.e.Kind, f)
		}
	}
	// An entry that is not formed comes first.
	long := letters(api.EnSight, 51)
	long.Sight.ID = 1
	wantError(t, "P9.1: Words of an entry with two errors", api.ErrArg, all(register.Words(long))...)
	wide := bounds(0, make([]int, 38)...)
	wide.Stone = 1
	wantError(t, "P9.1: Words of an entry with two errors", api.ErrArg, all(register.Words(wide))...)
}

func TestPartsOfSources(t *testing.T) {
	source := strings.Repeat("0123456789", 20)
	for _, n := range []int{0, 1, 49, 50, 51, 99, 100, 101, 150, 200} {
		l, e := register.Words(rule(1, 2, source[:n]))
		if e != api.OK || len(l) != 4+(n+49)/50 {
			t.Fatalf("P9.1: a source with %d bytes has %d words, %d", n, len(l), e)
		}
		for i, word := range l[4:] {
			part, e := sheet.ReadText(word)
			if want := source[50*i : min(n, 50*i+50)]; e != api.OK || part != want {
				t.Errorf("P9.1: the part %d of a source with %d bytes is %q, not %q", i, n, part, want)
			}
		}
	}
}
