package custom_test

import (
	"math/rand/v2"
	"slices"
	"strconv"
	"strings"
	"testing"

	"boundstone/api"
	"boundstone/custom"
)

func TestParse(t *testing.T) {
	x, y, n := variable("X"), variable("Y"), num(-1000000000)
	for _, c := range []struct {
		source string
		want   []api.Clause
	}{
		{"", nil},
		{" \t\n# nothing. p.", nil},
		{"p.", []api.Clause{clause(atom("p"))}},
		{"p(1,a,X).", []api.Clause{clause(atom("p", num(1), name("a"), x))}},
		{"p if q.", []api.Clause{clause(atom("p"), holds(atom("q")))}},
		{"p if not q(X , -1000000000).", []api.Clause{clause(atom("p"), not(atom("q", x, n)))}},
		{"p if X=Y.", []api.Clause{clause(atom("p"), compared(api.LiEqual, x, y))}},
		{"p if X != Y.", []api.Clause{clause(atom("p"), compared(api.LiOther, x, y))}},
		{"p if X<Y.", []api.Clause{clause(atom("p"), compared(api.LiLess, x, y))}},
		{"p if X>Y.", []api.Clause{clause(atom("p"), compared(api.LiLess, y, x))}},
		{"p if X<=Y.", []api.Clause{clause(atom("p"), compared(api.LiMost, x, y))}},
		{"p if X>=Y.", []api.Clause{clause(atom("p"), compared(api.LiMost, y, x))}},
		{"p if a < 0.", []api.Clause{clause(atom("p"), compared(api.LiLess, name("a"), num(0)))}},
		{"p if a,b=c.", []api.Clause{clause(atom("p"), holds(atom("a")), compared(api.LiEqual, name("b"), name("c")))}},
		{"p if 0>=-7.", []api.Clause{clause(atom("p"), compared(api.LiMost, num(-7), num(0)))}},
		{"p# if q\n.#", []api.Clause{clause(atom("p"))}},
		{"p.q.p.", []api.Clause{clause(atom("p")), clause(atom("q")), clause(atom("p"))}},
		{"iff if notIf, Not = If.", []api.Clause{clause(atom("iff"), holds(atom("notIf")), compared(api.LiEqual, variable("Not"), variable("If")))}},
		{"a\n(\tX )if b ( X),X>3 .", []api.Clause{clause(atom("a", x), holds(atom("b", x)), compared(api.LiLess, num(3), x))}},
	} {
		l, e, i := custom.Parse(c.source)
		if e != api.OK || i != 0 || !sameClauses(l, c.want) {
			t.Errorf("P8.1: Parse of %q is %v, %d, %d, not %v", c.source, l, e, i, c.want)
		}
	}
}

func TestParseAtom(t *testing.T) {
	for _, c := range []struct {
		source string
		want   api.Atom
	}{
		{"p", atom("p")},
		{" p # .\n", atom("p")},
		{"p(X)", atom("p", variable("X"))},
		{"p(0, -1, a)\t", atom("p", num(0), num(-1), name("a"))},
		{"iffy(notX, X1y2)", atom("iffy", name("notX"), variable("X1y2"))},
		{"az09AZ(zaZA90, AzaZ, Za)", atom("az09AZ", name("zaZA90"), variable("AzaZ"), variable("Za"))},
	} {
		a, e, i := custom.ParseAtom(c.source)
		if e != api.OK || i != 0 || !sameAtom(a, c.want) {
			t.Errorf("P8.1: ParseAtom of %q is %v, %d, %d", c.source, a, e, i)
		}
	}
}

// malformed has sources of which the byte with the index is wrong, for Parse.
var malformed = []struct {
	source string
	index  int
}{
	{"p(X", 3}, {"p q.", 2}, {"p(-0).", 2}, // the examples
	{"p(X  # more", 11}, {"p", 1}, {"p if", 4}, {"p if q", 6}, {"p if q,", 7}, {"p if not", 8}, {"p if X", 6}, {"p if X <", 8}, {"p(X,", 4}, {"p(", 2}, {"p)", 1},
	{"p()", 2}, {"p().", 2}, {"p(,a).", 2}, {"p(a,).", 4}, {"p(a;b).", 3}, {"p(a(b)).", 3}, {"p(if).", 2}, {"p(not).", 2}, {"p(X)(Y).", 4},
	{"P.", 0}, {"1.", 0}, {".", 0}, {"if.", 0}, {"not p.", 0}, {"(p).", 0}, {"p..", 2}, {"p.if", 2}, {"p = q.", 2}, {"p, q.", 1}, {"a < 3.", 2},
	{"p if .", 5}, {"p if if q.", 5}, {"p if not not q.", 9}, {"p if not X.", 9}, {"p if not 3.", 9}, {"p if not a = b.", 11}, {"p if X.", 6}, {"p if 3.", 6}, {"p if X, q.", 6}, {"p if X(a).", 6}, {"p if 3(a).", 6},
	{"p if q(X) = 3.", 10}, {"p if q if r.", 7}, {"p if q r.", 7}, {"p if q,, r.", 7}, {"p if q,.", 7}, {"p if a = = b.", 9}, {"p if a = b = c.", 11}, {"p if a = b(c).", 10}, {"p if X == Y.", 8}, {"p if X =< Y.", 8}, {"p if X >< Y.", 8}, {"p if X = not.", 9}, {"p if (a = b).", 5},
	{"p(01).", 3}, {"p(00).", 3}, {"p(1a).", 3}, {"p(12X).", 4}, {"p(0x1).", 3}, {"p(-1a).", 4}, {"p(-).", 2}, {"p(-a).", 2}, {"p(- 1).", 2}, {"p(--1).", 2}, {"p(-01).", 2}, {"p(+1).", 2}, {"p(1.5).", 3}, {"p(1-2).", 3}, {"p(X-2).", 3}, {"-", 0}, {"p.-", 2},
	{"p if X ! = Y.", 7}, {"p!", 1}, {"p if X !", 7}, {"p_q.", 1}, {"p?", 1}, {"p(\"a\").", 2}, {"p\r\n.", 1}, {"p\x00.", 1}, {"pé.", 1}, {"\xff", 0}, {"p(a:b).", 3}, {"p [q].", 2}, {"p if q & r.", 7},
	{"p(1000000001).", 2}, {"p(-1000000001).", 2}, {"p(99999999999999999999).", 2}, {"p(18446744073709551617).", 2}, {"p(10000000010a).", 2}, {"p(1000000000a).", 12},
	{"p q. )( 7up", 9}, {"p q. ?", 5}, {"p(X? 0", 3}, {"p q. 00 ?", 6}, {"p q. -", 5}, // errors of tokens come first
	{"aaaaaaaaaaaaaaaaaaaaaaaaa.", 0}, {"p(Aaaaaaaaaaaaaaaaaaaaaaaa1).", 2}, {"p q. aaaaaaaaaaaaaaaaaaaaaaaaa", 5}, {"p if ifififififififififififififif.", 5},
}

func TestMalformed(t *testing.T) {
	for _, c := range malformed {
		l, e, i := custom.Parse(c.source)
		if e != api.ErrForm || i != c.index || len(l) > 0 {
			t.Errorf("P8.1: Parse of %q is %v, %d, %d, not 7, %d", c.source, l, e, i, c.index)
		}
	}
	for _, c := range []struct {
		source string
		index  int
	}{
		{"", 0}, {" # p", 4}, {"p.", 1}, {"p(X).", 4}, {"p q", 2}, {"p if q", 2}, {"p,q", 1}, {"p(X", 3}, {"p(X ", 4}, {"not p", 0}, {"X", 0}, {"3", 0}, {"a = b", 2}, {"if", 0}, {"()", 0}, {"p(a)(b)", 4}, {"p(q(a))", 3}, {"p(-0)", 2}, {"p q ?", 4}, {"p(1, 2, 3, 4).", 13},
	} {
		a, e, i := custom.ParseAtom(c.source)
		if e != api.ErrForm || i != c.index || a.Pred != "" || len(a.Args) > 0 {
			t.Errorf("P8.1: ParseAtom of %q is %v, %d, %d, not 7, %d", c.source, a, e, i, c.index)
		}
	}
}

func TestLimitsOfSources(t *testing.T) {
	long := strings.Repeat("a", 24)
	body := func(n int) string { return "p if " + strings.Repeat("q, ", n-1) + "q." }
	blanks := func(n int) string { return strings.Repeat(" ", n) }
	for _, c := range []struct {
		source string
		want   api.Errno
		index  int
	}{
		{long + "(A" + long[1:] + ", " + long + ").", api.OK, 0},
		{"p(" + long + "a).", api.ErrForm, 2},
		{"p(1000000000, -1000000000).", api.OK, 0},
		{strings.Repeat("p.", 40), api.OK, 0},
		{strings.Repeat("p.", 41), api.ErrLimit, 0},
		{strings.Repeat("p.", 41) + "p", api.ErrForm, 83},
		{body(5), api.OK, 0},
		{body(6), api.ErrLimit, 0},
		{"p. " + body(6), api.ErrLimit, 0},
		{body(6) + " q", api.ErrForm, 24},
		{"p if a = b, a = b, a = b, a = b, a = b, a = b.", api.ErrLimit, 0},
		{"p(1, 2, 3).", api.OK, 0},
		{"p(1, 2, 3, 4).", api.ErrLimit, 0},
		{"p(1, 2, 3, 4)", api.ErrForm, 13},
		{"p if q(1, 2, 3, 4).", api.ErrLimit, 0},
		{"p if q, not q(1, 2, 3, 4).", api.ErrLimit, 0},
		{"p." + blanks(5998), api.OK, 0},
		{"p." + blanks(5999), api.ErrLimit, 0},
		{"?" + blanks(6000), api.ErrLimit, 0},
		{"p#" + strings.Repeat("x", 5998), api.ErrForm, 6000},
		{"p(" + strings.Repeat("9", 5996) + ").", api.ErrForm, 2},
		{strings.Repeat("p", 5999) + ".", api.ErrForm, 0},
		{"p(" + strings.Repeat("1,", 2998) + "1)", api.ErrForm, 6000},
		{"p(" + strings.Repeat("1,", 2997) + "1).", api.ErrLimit, 0},
		{strings.Repeat("p.", 3000), api.ErrLimit, 0},
	} {
		if l, e, i := custom.Parse(c.source); e != c.want || i != c.index || (e != api.OK) != (len(l) == 0) {
			t.Errorf("P8.1: Parse of %.50q (%d bytes) is %d, %d, not %d, %d", c.source, len(c.source), e, i, c.want, c.index)
		}
	}
	for _, c := range []struct {
		source string
		want   api.Errno
		index  int
	}{
		{"p(1, 2, 3)", api.OK, 0},
		{"p(1, 2, 3, 4)", api.ErrLimit, 0},
		{"p(1, 2, 3, 4) p", api.ErrForm, 14},
		{"p" + blanks(5999), api.OK, 0},
		{"p" + blanks(6000), api.ErrLimit, 0},
		{"?" + blanks(6000), api.ErrLimit, 0},
	} {
		if a, e, i := custom.ParseAtom(c.source); e != c.want || i != c.index || (e != api.OK) != (a.Pred == "") {
			t.Errorf("P8.1: ParseAtom of %.50q is %v, %d, %d, not %d, %d", c.source, a, e, i, c.want, c.index)
		}
	}
}

// randomSource returns some tokens, most of them like those of clauses, with what separates them.
func randomSource(r *rand.Rand) string {
	var s strings.Builder
	for range r.IntN(14) {
		s.WriteString(pick(r, "p", "q1", "X", "Y", "if", "not", "0", "7", "-12", "(", ")", ",", ".", "=", "!=", "<", "<=", ">", ">=", "p(X)", "p(a, b)", "p if q", "q.", "not p", "X = 3", ", r"))
		s.WriteString(pick(r, "", " ", " ", "\n", "\t", " # if\n"))
		if r.IntN(40) == 0 {
			s.WriteString(pick(r, "!", "-", "_", "?", "-0", "00", "5x", "\r", "\x80", "1000000001", "abcdefghijklmnopqrstuvwxy", "#"))
		}
	}
	return s.String()
}

// wantIndex returns the error and the index of a source by the slow grammar.
func wantIndex(source, symbol string) (api.Errno, int) {
	tokens, wrong := slowTokens(source)
	if wrong == -1 {
		wrong = slowError(source, symbol, tokens)
	}
	if wrong == -1 {
		return api.OK, 0
	}
	return api.ErrForm, wrong
}

func TestRandomSources(t *testing.T) {
	r := newRand(8, 1)
	n := map[api.Errno]int{}
	for range 30000 {
		s := randomSource(r)
		l, e, i := custom.Parse(s)
		f, k := wantIndex(s, "P")
		n[e]++
		if e == api.ErrLimit {
			e = api.OK
		}
		if e != f || i != k {
			t.Fatalf("P8.1: Parse of %q is %v, %d, %d, not %d, %d", s, l, e, i, f, k)
		}
		_, e, i = custom.ParseAtom(s)
		if f, k = wantIndex(s, "A"); e != f || i != k {
			t.Fatalf("P8.1: ParseAtom of %q is %d, %d, not %d, %d", s, e, i, f, k)
		}
	}
	if min(n[api.OK], n[api.ErrForm]) < 1000 {
		t.Errorf("P8.1: these sources test little: %v", n)
	}
}

func TestBrokenSources(t *testing.T) {
	r := newRand(8, 2)
	for range 5000 {
		b := []byte(slowText(randomClauses(r)))
		for range r.IntN(3) {
			i := r.IntN(len(b) + 1)
			if more := []byte(pick(r, "", "p", ".", ",", "(", "if ", "9", "-", "=", "#", "?", "\n")); r.IntN(2) == 0 || i == len(b) {
				b = slices.Insert(b, i, more...)
			} else {
				b = slices.Delete(b, i, i+1)
			}
		}
		s := string(b)
		_, e, i := custom.Parse(s)
		if f, k := wantIndex(s, "P"); e != api.ErrLimit && (e != f || i != k) {
			t.Fatalf("P8.1: Parse of %q is %d, %d, not %d, %d", s, e, i, f, k)
		}
	}
}

// slowText returns the text of clauses.
func slowText(l []api.Clause) string {
	marks := map[int]string{api.LiEqual: " = ", api.LiOther: " != ", api.LiLess: " < ", api.LiMost: " <= "}
	term := func(t api.Term) string {
		if t.Kind == api.TeNumber {
			return strconv.Itoa(t.N)
		}
		return t.S
	}
	text := func(a api.Atom) string {
		s := a.Pred
		for i, t := range a.Args {
			s += []string{", ", "("}[max(0, 1-i)] + term(t)
		}
		return s + strings.Repeat(")", min(1, len(a.Args)))
	}
	all := ""
	for _, c := range l {
		all += text(c.Head)
		for i, b := range c.Body {
			all += []string{", ", " if "}[max(0, 1-i)]
			switch b.Kind {
			case api.LiAtom:
				all += text(b.Atom)
			case api.LiNot:
				all += "not " + text(b.Atom)
			default:
				all += term(b.A) + marks[b.Kind] + term(b.B)
			}
		}
		all += ".\n"
	}
	return all
}

func TestPrint(t *testing.T) {
	for _, c := range []struct{ source, want string }{
		{"", ""},
		{"a(X)if b(X),X>3.", "a(X) if b(X), 3 < X.\n"},
		{"p.q( a,-5 ).", "p.\nq(a, -5).\n"},
		{"p if not q(X),X=Y,X!=0,X<Y,X>=y#.\n.", "p if not q(X), X = Y, X != 0, X < Y, y <= X.\n"},
	} {
		if s, e := custom.Print(clauses(c.source)); e != api.OK || s != c.want {
			t.Errorf("P8.1: Print of %q is %q, %d", c.source, s, e)
		}
	}
	for _, c := range []struct {
		a    api.Atom
		want string
	}{{atom("p"), "p"}, {atom("p", num(0)), "p(0)"}, {atom("isIn", variable("X"), name("if1"), num(-greatest)), "isIn(X, if1, -1000000000)"}} {
		if s, e := custom.PrintAtom(c.a); e != api.OK || s != c.want {
			t.Errorf("P8.1: PrintAtom of %v is %q, %d", c.a, s, e)
		}
	}
	unsafe := []api.Clause{clause(atom("p", variable("X")), not(atom("p", variable("Y"))))}
	if s, e := custom.Print(unsafe); e != api.OK || s != "p(X) if not p(Y).\n" {
		t.Errorf("P8.1: Print of what is not safe is %q, %d", s, e)
	}
	most := slices.Repeat([]api.Clause{clause(atom("p"))}, 40)
	if s, e := custom.Print(most); e != api.OK || s != strings.Repeat("p.\n", 40) {
		t.Errorf("P8.1: Print of 40 clauses is %q, %d", s, e)
	}
	wantError(t, "P8.1: Print", api.ErrLimit, all(custom.Print(make([]api.Clause, 41)))...)
	wantError(t, "P8.1: Print", api.ErrForm, all(custom.Print(append(most[:39:39], clause(atom("P")))))...)
	for _, a := range wrongAtoms() {
		wantError(t, "P8.1: PrintAtom", api.ErrForm, all(custom.PrintAtom(a))...)
	}
}

func TestTextsAndClauses(t *testing.T) {
	r := newRand(8, 3)
	for range 3000 {
		l := randomClauses(r)
		for range r.IntN(3) { // these need not be safe
			l = append(l, clause(randomAtom(r, "abc", "X", "Y"), not(randomAtom(r, "abc", "Z")), compared(api.LiMost, randomTerm(r, "U"), randomTerm(r))))
		}
		s, e := custom.Print(l)
		if want := slowText(l); e != api.OK || s != want {
			t.Fatalf("P8.1: Print of %v is %q, %d, not %q", l, s, e, want)
		}
		m, e, i := custom.Parse(s)
		if e != api.OK || i != 0 || !sameClauses(l, m) {
			t.Fatalf("P8.10: Parse of %q is %v, %d, %d, not %v", s, m, e, i, l)
		}
		for _, c := range l {
			text, e := custom.PrintAtom(c.Head)
			a, f, _ := custom.ParseAtom(text)
			if e != api.OK || f != api.OK || !sameAtom(a, c.Head) {
				t.Fatalf("P8.10: ParseAtom of %q is %v, %d", text, a, f)
			}
		}
	}
	n := 0
	for range 3000 {
		l, e, _ := custom.Parse(randomSource(r))
		if e != api.OK {
			continue
		}
		s, e := custom.Print(l)
		m, f, _ := custom.Parse(s)
		if e != api.OK || f != api.OK || !sameClauses(l, m) {
			t.Fatalf("P8.10: Print of %v is %q, %d, which is %v, %d", l, s, e, m, f)
		}
		n++
	}
	if n < 100 {
		t.Errorf("P8.10: these sources test little: %d", n)
	}
}
