package register_test

import (
	"math/rand/v2"
	"slices"
	"testing"

	"boundstone/api"
	"boundstone/credit"
	"boundstone/plane"
	"boundstone/register"
)

func TestSidesAreTrue(t *testing.T) {
	r := newRand(9, 10)
	n, withdrawn := map[api.Answer]int{}, 0
	for range 800 {
		v := randomVillage(r)
		g := folded(t, v.l, lastYear)
		for year := 1704; year <= 1708; year++ {
			wrong, is := v.wrongWalks(g.Parish, year)
			b, e := register.Bench(g, year)
			if !is || e != api.OK {
				continue
			}
			least, e := credit.Least(b)
			if e != api.OK || !slices.ContainsFunc(least, func(set []int) bool { return slices.Equal(set, wrong) }) {
				continue
			}
			withdrawn += min(1, len(wrong))
			for _, f := range g.Fields {
				answer, e := register.Side(g, f.Number, year)
				if e != api.OK {
					continue
				}
				n[answer]++
				if side := v.side(g.Parish.Ring, f.At); answer != api.Open && answer != side {
					t.Fatalf("P9.15: the field %v lies on the side %d in %d, but Side is %d, for %v", f, side, year, answer, v.l)
				}
			}
		}
	}
	if min(n[api.Yes], n[api.No], n[api.Open], withdrawn) < 100 {
		t.Errorf("P9.15: these villages test little: %v, %d with wrong walks", n, withdrawn)
	}
}

// side returns on which side of the true bounds a point lies: Open if it is on an edge.
func (v *village) side(ring []int, p api.Point) api.Answer {
	var corners []api.Point
	for _, number := range ring {
		corners = append(corners, v.stood[number])
	}
	switch n, e := plane.Winding(corners, p); {
	case e != api.OK:
		return api.Open
	case n != 0:
		return api.Yes
	}
	return api.No
}

func TestTithesAreThoseOfTheEntries(t *testing.T) {
	r := newRand(9, 11)
	held, kept := 0, 0
	for range 400 {
		v := randomVillage(r)
		g := folded(t, v.l, randomKnown(r))
		years := span(1703+r.IntN(3), 1706+r.IntN(4))
		l, e := register.Transfers(g, years)
		if e != api.OK {
			t.Fatalf("P9.9: the error of Transfers is %d", e)
		}
		for _, f := range g.Fields {
			for year := 1702; year <= 1710; year++ {
				want := [3]int{0, slowHeld(g, 1, f.Number, year), slowHeld(g, 2, f.Number, year)}
				if vestry, e := register.Takes(g, f.Number, year); e == api.OK && years.Lo <= year && year <= years.Hi {
					want = [3]int{}
					want[vestry] = f.Pence
					held++
				} else if want[1]+want[2] > 0 {
					kept++
				}
				for vestry := 1; vestry <= 2; vestry++ {
					if n, e := register.Holds(g, l, vestry, f.Number, year); e != api.OK || n != want[vestry] {
						t.Fatalf("P9.16: behind %v the vestry %d holds %d for %d in %d (%d), not %d, by %v", l, vestry, n, f.Number, year, e, want[vestry], v.l)
					}
				}
			}
		}
	}
	if held < 500 || kept < 300 {
		t.Errorf("P9.16: these villages test little: %d tithes that somebody takes, %d others", held, kept)
	}
}

// answered reports whether an answer to a claim in time counts in a year, and ruled whether a ruling does.
func answered(l []api.Entered, c api.Claimed) bool {
	return slices.ContainsFunc(l, func(x api.Entered) bool {
		return x.Entry.Kind == api.EnAnswer && x.Name.Vestry == 3-c.Vestry && x.Entry.Target == name(c.Vestry, c.ID-1000*c.Vestry) && x.Entry.Written <= c.Claim.Until
	})
}

func ruled(l []api.Entered, c api.Claimed) bool {
	return slices.ContainsFunc(l, func(x api.Entered) bool {
		return x.Entry.Kind == api.EnRuling && x.Name.Vestry == 0 && x.Entry.Target == name(c.Vestry, c.ID-1000*c.Vestry)
	})
}

func TestClaimsAreGranted(t *testing.T) {
	r := newRand(9, 12)
	n := tally{}
	for range 1500 {
		v := randomVillage(r)
		known := 1702 + r.IntN(10)
		some := slowEffective(v.l, known)
		for _, c := range folded(t, v.l, known).Claims {
			switch {
			case ruled(some, c):
				n["ruled"]++
			case answered(some, c):
				n["answered"]++
				v.checkNotGiven(t, r, c, known)
			case known <= c.Claim.Until:
				n["open"]++
				if c.Holder != 0 {
					t.Fatalf("P9.17: the claim %v is granted in %d, by %v", c, known, v.l)
				}
			default:
				n["granted"]++
				if c.Holder != c.Vestry {
					t.Fatalf("P9.17: the claim %v is not granted in %d, by %v", c, known, v.l)
				}
				v.checkStaysGranted(t, c, known)
			}
		}
	}
	for _, what := range []string{"ruled", "answered", "open", "granted"} {
		if n[what] < 100 {
			t.Errorf("P9.17: these villages test little: %v", n)
		}
	}
}

// holderOfClaim returns the Holder of the claim with an ID; -1 if there is none.
func holderOfClaim(t *testing.T, l []api.Entered, known, id int) int {
	t.Helper()
	for _, c := range folded(t, l, known).Claims {
		if c.ID == id {
			return c.Holder
		}
	}
	return -1
}

// checkStaysGranted checks that a claim stays granted as long as nothing is ruled, and nothing is taken back.
func (v *village) checkStaysGranted(t *testing.T, c api.Claimed, known int) {
	t.Helper()
	l := slices.DeleteFunc(slices.Clone(v.l), func(x api.Entered) bool {
		return x.Entry.Kind == api.EnBack && x.Entry.Written > known || x.Entry.Kind == api.EnRuling
	})
	for _, late := range []int{known + 1, known + 5, lastYear} {
		// The other parish answers too late.
		more := with(l, entered(3-c.Vestry, lastLine, known, answer(c.Vestry, c.ID-1000*c.Vestry)))
		if holder := holderOfClaim(t, more, late, c.ID); holder != c.Vestry {
			t.Fatalf("P9.17: the claim %v was granted in %d, but its holder in %d is %d, by %v", c, known, late, holder, more)
		}
	}
}

// checkNotGiven checks that a claim that was answered is not granted by whatever the parish that has made it enters.
func (v *village) checkNotGiven(t *testing.T, r *rand.Rand, c api.Claimed, known int) {
	t.Helper()
	if c.Holder != 0 {
		t.Fatalf("P9.17: the claim %v was answered, but it has a holder in %d, by %v", c, known, v.l)
	}
	line := c.ID - 1000*c.Vestry
	own := []api.Entry{answer(c.Vestry, line), ruling(c.Vestry, line, c.Vestry), claim(c.Claim.Field, c.Claim.Year, c.Claim.Until), back(1 + r.IntN(30)), back(line)}
	l := with(v.l, entered(c.Vestry, lastLine, 1700+r.IntN(10), own[r.IntN(len(own))]))
	for _, late := range []int{known, known + r.IntN(9)} {
		some := slowEffective(l, late)
		if holder := holderOfClaim(t, l, late, c.ID); answered(some, c) && !ruled(some, c) && holder > 0 {
			t.Fatalf("P9.17: the claim %v was answered, but its holder in %d is %d, by %v", c, late, holder, l)
		}
	}
}

func TestWhatIsNotNeeded(t *testing.T) {
	r := newRand(9, 13)
	customs, entries := 0, 0
	for range 150 {
		v := randomVillage(r)
		known, year, number := randomKnown(r), randomYear(r), v.anyField(r)
		g := folded(t, v.l, known)
		vestry, e := register.Takes(g, number, year)
		rests, f := register.Rests(g, number, year)
		needs, h := register.Needs(v.l, known, number, year)
		if f != api.OK || h != api.OK {
			continue
		}
		for i, c := range g.Customs {
			less := plain(g)
			less.Customs = slices.Delete(less.Customs, i, i+1)
			w, f := register.Takes(less, number, year)
			if is := w == vestry && f == e; is == slices.Contains(rests, c.ID) {
				t.Fatalf("P9.18: without the custom %d, of which Rests is %v, %d takes the tithe (%d), not %d (%d), by %v", c.ID, rests, w, f, vestry, e, v.l)
			}
			customs++
		}
		for _, x := range slowEffective(v.l, known) {
			less := slices.DeleteFunc(slices.Clone(v.l), func(y api.Entered) bool {
				return y.Name == x.Name || y.Entry.Kind == api.EnBack && y.Name.Vestry == x.Name.Vestry && y.Entry.Target.Line == x.Name.Line
			})
			w, f := register.Takes(folded(t, less, known), number, year)
			if is := w == vestry && f == e; is == slices.Contains(needs, x.Name) {
				t.Fatalf("P9.18: without the entry %v, of which Needs is %v, %d takes the tithe (%d), not %d (%d), by %v", x.Name, needs, w, f, vestry, e, v.l)
			}
			entries++
		}
	}
	if customs < 50 || entries < 2000 {
		t.Errorf("P9.18: these villages test little: %d customs, %d entries", customs, entries)
	}
}
