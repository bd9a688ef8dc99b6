package register_test

import (
	"fmt"
	"maps"
	"math/rand/v2"
	"reflect"
	"slices"
	"strings"
	"testing"

	"boundstone/api"
	"boundstone/custom"
	"boundstone/register"
)

const (
	lastYear  = 4000
	lastLine  = 400
	greatID   = 1 << 40
	pence     = 1 << 40 // the most pence
	lastField = 1000
)

func newRand(a, b uint64) *rand.Rand { return rand.New(rand.NewPCG(a, b)) }

func at(x, y int) api.Point { return api.Point{X: x, Y: y} }

func span(lo, hi int) api.Span { return api.Span{Lo: lo, Hi: hi} }

func box(xlo, xhi, ylo, yhi int) api.Box { return api.Box{X: span(xlo, xhi), Y: span(ylo, yhi)} }

func name(vestry, line int) api.Name { return api.Name{Vestry: vestry, Line: line} }

func sight(year int, b api.Box) api.Sight {
	return api.Sight{Year: year, At: b, Letters: "A", Height: span(0, 100)}
}

// leg returns a leg that was measured with the chain 1.
func leg(from, to, quarter, year, links, slack int) api.Leg {
	return api.Leg{From: from, To: to, Quarter: quarter, Measure: api.Measure{Chain: 1, Year: year, Chains: links / 100, Links: links % 100, Slack: slack}}
}

func chain(id, year, lo, hi, wear int) api.Entry {
	return api.Entry{Kind: api.EnChain, Chain: api.Chain{ID: id, Year: year, Made: span(lo, hi), Wear: wear}}
}

func proof(chain, year, lo, hi int) api.Entry {
	return api.Entry{Kind: api.EnProof, Proof: api.Proof{Chain: chain, Year: year, Long: span(lo, hi)}}
}

func repair(chain, year, lo, hi int) api.Entry {
	return api.Entry{Kind: api.EnRepair, Repair: api.Repair{Chain: chain, Year: year, Made: span(lo, hi)}}
}

func stone(number, year int, b api.Box) api.Entry {
	return api.Entry{Kind: api.EnStone, Stone: number, Sight: sight(year, b)}
}

func seen(number, year int, b api.Box) api.Entry {
	return api.Entry{Kind: api.EnSight, Stone: number, Sight: sight(year, b)}
}

func note(number, kind, from, to int) api.Entry {
	return api.Entry{Kind: api.EnNote, Stone: number, Note: api.Note{Kind: kind, From: from, To: to}}
}

func bounds(changes int, ring ...int) api.Entry {
	return api.Entry{Kind: api.EnBounds, Changes: changes, Ring: ring}
}

func witness(id, right, wrong int) api.Entry {
	return api.Entry{Kind: api.EnWitness, Witness: api.Witness{ID: id, Right: right, Wrong: wrong}}
}

func walked(by, year int, legs ...api.Leg) api.Entry {
	return api.Entry{Kind: api.EnWalk, By: by, Walk: api.Walk{Year: year, Legs: legs}}
}

func field(number, x, y, due int) api.Entry {
	return api.Entry{Kind: api.EnField, Field: api.Field{Number: number, At: at(x, y), Pence: due}}
}

func paid(number, year, vestry, n int) api.Entry {
	return api.Entry{Kind: api.EnPaid, Paid: api.Paid{Field: number, Year: year, Vestry: vestry, Pence: n}}
}

func rule(from, to int, source string) api.Entry {
	return api.Entry{Kind: api.EnCustom, Rule: api.Rule{From: from, To: to, Source: source}}
}

func claim(number, year, until int) api.Entry {
	return api.Entry{Kind: api.EnClaim, Claim: api.Claim{Field: number, Year: year, Until: until}}
}

func answer(vestry, line int) api.Entry {
	return api.Entry{Kind: api.EnAnswer, Target: name(vestry, line)}
}

func ruling(vestry, line, whose int) api.Entry {
	return api.Entry{Kind: api.EnRuling, Target: name(vestry, line), Vestry: whose}
}

func back(line int) api.Entry { return api.Entry{Kind: api.EnBack, Target: name(0, line)} }

// in returns an entry that was written in a year.
func in(year int, e api.Entry) api.Entry {
	e.Written = year
	return e
}

func entered(vestry, line, year int, e api.Entry) api.Entered {
	return api.Entered{Name: name(vestry, line), Entry: in(year, e)}
}

// inBook returns entries of 1700 that stand in a book, with the lines from the first one on.
func inBook(vestry, first int, l ...api.Entry) []api.Entered {
	var all []api.Entered
	for i, e := range l {
		all = append(all, entered(vestry, first+i, 1700, e))
	}
	return all
}

// land returns entries, in the lines 1 to 15 of the diocese, of the parish of the examples of layer 6, whose stone 3 is not known well; the fields 4 (inside), 6 (outside) and 5 (open) in it; and three witnesses.
func land() []api.Entered {
	far := box(0, 4, 395, 405)
	return inBook(api.Diocese, 1,
		chain(1, 1700, 10000, 10000, 0),
		stone(1, 1700, box(0, 0, 0, 0)), seen(1, 1720, box(0, 0, 0, 0)),
		stone(2, 1700, box(300, 300, 0, 0)), seen(2, 1720, box(300, 300, 0, 0)),
		stone(3, 1700, far), seen(3, 1720, far),
		bounds(0, 1, 2, 3),
		witness(1, 8, 0), witness(2, 0, 0), witness(3, 0, 2),
		walked(1, 1710, leg(1, 3, api.North, 1710, 400, 0)),
		field(4, 100, 100, 50), field(6, -1, 5, 30), field(5, 0, 200, 20),
	)
}

// with returns entries with some more.
func with(l []api.Entered, more ...api.Entered) []api.Entered {
	return append(slices.Clone(l), more...)
}

// folded returns the register of entries in a year, which has no error.
func folded(t *testing.T, l []api.Entered, known int) api.Register {
	t.Helper()
	r, e := register.Fold(l, known)
	if e != api.OK {
		t.Fatalf("P9.3: the error of Fold is %d", e)
	}
	return r
}

// enlarged returns the register of the land with more entries in the book of the parish inside, in the lines from 1 on; none is refused.
func enlarged(t *testing.T, more ...api.Entry) api.Register {
	t.Helper()
	r := folded(t, with(land(), inBook(api.Inner, 1, more...)...), 1700)
	if len(r.Refused) > 0 {
		t.Fatalf("P9.3: %v are refused", r.Refused)
	}
	return r
}

// plain returns a value with new memory, in which each empty list is nil.
func plain[T any](x T) T {
	simplify(reflect.ValueOf(&x).Elem())
	return x
}

func simplify(v reflect.Value) {
	switch v.Kind() {
	case reflect.Slice:
		if v.Len() == 0 {
			v.SetZero()
			return
		}
		l := reflect.MakeSlice(v.Type(), v.Len(), v.Len())
		reflect.Copy(l, v)
		for i := range l.Len() {
			simplify(l.Index(i))
		}
		v.Set(l)
	case reflect.Struct:
		for i := range v.NumField() {
			simplify(v.Field(i))
		}
	}
}

// same reports whether values are the same but for empty lists.
func same[T any](a, b T) bool { return reflect.DeepEqual(plain(a), plain(b)) }

// isNothing reports whether a result is a zero value but for empty lists.
func isNothing(x any) bool {
	v := reflect.ValueOf(x)
	if !v.IsValid() {
		return true
	}
	if v.Kind() == reflect.Slice {
		return v.Len() == 0
	}
	c := reflect.New(v.Type()).Elem()
	c.Set(v)
	simplify(c)
	return c.IsZero()
}

// wantError checks the error of a call, whose results come first, and that there is nothing beside an error.
func wantError(t *testing.T, what string, want api.Errno, results ...any) {
	t.Helper()
	last := len(results) - 1
	if results[last] != want {
		t.Errorf("%s: the error is %v, not %d", what, results[last], want)
	}
	for _, x := range results[:last] {
		if want != api.OK && !isNothing(x) {
			t.Errorf("R4: %s: together with the error %v there is %v", what, results[last], x)
		}
	}
}

// all returns the results of a call as a list.
func all(results ...any) []any { return results }

// clauses returns what a source is, which has no errors.
func clauses(source string) []api.Clause {
	l, e, i := custom.Parse(source)
	if e != api.OK {
		panic(fmt.Sprint(source, ": ", e, " ", i))
	}
	return l
}

// texts returns the texts of atoms, with blanks between them.
func texts(l []api.Atom) string {
	var s []string
	for _, a := range l {
		one, e := custom.PrintAtom(a)
		if e != api.OK {
			one = fmt.Sprint("an atom that is not formed: ", a)
		}
		s = append(s, one)
	}
	return strings.Join(s, " ")
}

// words returns the words of a text.
func words(s string) []string { return strings.Fields(s) }

// sortedKeys returns the numbers that are in a set, in increasing order.
func sortedKeys(set map[int]bool) []int { return slices.Sorted(maps.Keys(set)) }
