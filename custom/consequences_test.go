package custom_test

import (
	"math/rand/v2"
	"slices"
	"testing"

	"boundstone/api"
	"boundstone/custom"
)

func shuffled[T any](r *rand.Rand, l []T) []T {
	l = slices.Clone(l)
	r.Shuffle(len(l), func(i, k int) { l[i], l[k] = l[k], l[i] })
	return l
}

func TestTheModelIsRight(t *testing.T) {
	r := newRand(8, 15)
	for range 1000 {
		l, base := stratified(r), randomBase(r)
		holding, e := custom.Model(l, base)
		if e != api.OK {
			t.Fatalf("P8.11: the error of Model is %d", e)
		}
		supported := slices.Clone(base)
		for _, c := range l {
			for _, d := range instances(c, universe(l, base)) {
				if slowBody(d, holding) {
					supported = append(supported, d.Head)
				}
			}
		}
		if len(less(supported, holding)) > 0 || len(less(holding, supported)) > 0 {
			t.Fatalf("P8.11: Model of\n%s and %v is %v, but given, or heads, are %v", slowText(l), base, holding, supported)
		}
	}
}

// positive returns clauses without their negations.
func positive(l []api.Clause) []api.Clause {
	l = copiedClauses(l)
	for i := range l {
		l[i].Body = slices.DeleteFunc(l[i].Body, func(b api.Literal) bool { return b.Kind == api.LiNot })
	}
	return l
}

func TestGrowth(t *testing.T) {
	r := newRand(8, 16)
	grown := 0
	for range 1000 {
		l, base := positive(append(stratified(r), stratified(r)...)), append(randomBase(r), randomBase(r)...)
		i, k := r.IntN(len(l)+1), r.IntN(len(base)+1)
		some, e := custom.Model(l[:i], base[:k])
		whole, f := custom.Model(l, base)
		if e != api.OK || f != api.OK || len(less(some, whole)) > 0 {
			t.Fatalf("P8.13: with more clauses or atoms %v becomes %v (%d, %d)", some, whole, e, f)
		}
		if len(whole)-len(some) > len(base)-k {
			grown++
		}
	}
	if grown < 100 {
		t.Errorf("P8.13: these clauses test little: %d", grown)
	}
}

func TestOrderDoesNotMatter(t *testing.T) {
	r := newRand(8, 17)
	fewer := 0
	for range 1000 {
		l, base := stratified(r), randomBase(r)
		want, e := custom.Model(l, base)
		other := shuffled(r, copiedClauses(l))
		for i, c := range other {
			other[i].Body = shuffled(r, c.Body)
		}
		got, f := custom.Model(other, shuffled(r, append(base, base...)))
		if e != api.OK || f != api.OK || !sameAtoms(got, want) {
			t.Fatalf("P8.14: in another order Model of\n%s and %v is %v, not %v (%d, %d)", slowText(l), base, got, want, e, f)
		}
		for _, p := range predicates(l) {
			indices, _ := custom.Relevant(l, p.name, p.args)
			var relevant []api.Clause
			for _, i := range indices {
				relevant = append(relevant, l[i])
			}
			some, e := custom.Model(relevant, base)
			isOther := func(a api.Atom) bool { return predicateOf(a) != p }
			if e != api.OK || !sameAtoms(slices.DeleteFunc(slices.Clone(some), isOther), slices.DeleteFunc(slices.Clone(want), isOther)) {
				t.Fatalf("P8.14: with what is relevant for %v alone Model of\n%s and %v is %v, not %v (%d)", p, slowText(l), base, some, want, e)
			}
			fewer += min(1, len(l)-len(relevant))
		}
	}
	if fewer < 100 {
		t.Errorf("P8.14: these clauses test little: %d", fewer)
	}
}

func TestYears(t *testing.T) {
	r := newRand(8, 18)
	n, outside := 0, 0
	for range 1000 {
		l, base := layered(r), randomBase(r)
		last := len(l) - 1
		before, more := l[:last], l[last]
		more.ID = pick(r, l[last].ID, 20)
		after, e := custom.Add(before, more)
		if e != api.OK {
			t.Fatalf("P8.15: the error of Add is %d", e)
		}
		for _, year := range []int{0, max(0, more.From-1), more.From, more.To, more.To + 1, r.IntN(15)} {
			was, _ := custom.InForce(before, year)
			is, _ := custom.InForce(after, year)
			one, _ := custom.Model(was, base)
			two, _ := custom.Model(is, base)
			if sameAtoms(one, two) {
				if year < more.From || year > more.To {
					outside++
				}
				continue
			}
			n++
			if year < more.From || year > more.To {
				t.Fatalf("P8.15: %v changes the model of %d from %v to %v", more, year, one, two)
			}
		}
	}
	if min(n, outside) < 100 {
		t.Errorf("P8.15: these customs test little: %d, %d", n, outside)
	}
}

func TestNothingRests(t *testing.T) {
	r := newRand(8, 19)
	n := 0
	for range 600 {
		l, year := layered(r), r.IntN(14)
		base := append(randomBase(r), atoms("d(1)")...)
		a := pick(r, atoms("a(1); b(1); c(1); d(b)")...)
		ids, e := custom.Rests(l, base, year, a)
		whole, _ := custom.InForce(l, year)
		is, _ := custom.Holds(whole, base, a)
		for i, c := range l {
			less, _ := custom.InForce(slices.Delete(slices.Clone(l), i, i+1), year)
			without, f := custom.Holds(less, base, a)
			if e != api.OK || f != api.OK || slices.Contains(ids, c.ID) != (is != without) {
				t.Fatalf("P8.15: %v rests on %v in %d, but without %d %v becomes %v (%d, %d)", a, ids, year, c.ID, is, without, e, f)
			}
		}
		if len(ids) == 0 && len(l) > 2 && is {
			n++
		}
	}
	if n < 20 {
		t.Errorf("P8.15: these customs test little: %d", n)
	}
}
