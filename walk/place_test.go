package walk_test

import (
	"math"
	"slices"
	"testing"

	"boundstone/api"
	"boundstone/stone"
	"boundstone/walk"
)

// spread returns a parish with stones that are present in different years: 7 from 1700 to 1704, 3 in 1702 alone, 5 from 1703 to 1710.
func spread() api.Parish {
	here := one(at(0, 0))
	return parish([]api.Marked{
		marked(7, 0, 0, sight(1, 1700, here), sight(2, 1704, here)),
		marked(3, 0, 0, sight(1, 1702, here)),
		marked(5, 0, 0, sight(1, 1703, here), sight(2, 1710, here)),
	})
}

func TestPresent(t *testing.T) {
	for year, want := range map[int][]int{
		0: nil, 1699: nil, 1700: {7}, 1701: {7}, 1702: {7, 3}, 1703: {7, 5}, 1704: {7, 5}, 1705: {5}, 1710: {5}, 1711: nil, lastYear: nil,
	} {
		l, e := walk.Present(spread(), year)
		if !slices.Equal(l, want) || e != api.OK {
			t.Errorf("P6.2: Present in %d is %v, %d, not %v", year, l, e, want)
		}
	}
	for _, p := range []api.Parish{spread(), clashing()} {
		for _, year := range []int{-1, lastYear + 1, math.MinInt64, math.MaxInt64} {
			wantError(t, "P6.2: Present in no year", api.ErrArg, all(walk.Present(p, year))...)
		}
	}
	for year, want := range map[int]api.Errno{1701: api.OK, 1702: api.ErrClash, 1705: api.ErrClash, 1708: api.ErrClash, 1709: api.OK} {
		wantError(t, "P6.2: Present of an impossible life", want, all(walk.Present(clashing(), year))...)
	}
	changed := clashing()
	changed.Changes = 1
	l, e := walk.Present(changed, 1705)
	if !slices.Equal(l, []int{1, 2, 3, 4}) || e != api.OK {
		t.Errorf("P6.2: Present with a change is %v, %d", l, e)
	}
}

func TestPlaces(t *testing.T) {
	for _, x := range []struct {
		years []int
		want  []api.Stood
	}{
		{[]int{1702}, []api.Stood{{Number: 7, Year: 1702}, {Number: 3, Year: 1702}}},
		{[]int{1699}, nil},
		{[]int{0, 1702, 1703, 1710, lastYear}, []api.Stood{{Number: 7, Year: 1702}, {Number: 3, Year: 1702}, {Number: 7, Year: 1703}, {Number: 5, Year: 1703}, {Number: 5, Year: 1710}}},
	} {
		l, e := walk.Places(spread(), x.years)
		if !slices.Equal(l, x.want) || e != api.OK {
			t.Errorf("P6.3: Places of %v is %v, %d, not %v", x.years, l, e, x.want)
		}
	}
}

// wrongYears returns years of which there are no places.
func wrongYears() [][]int {
	return [][]int{nil, {}, {-1}, {lastYear + 1}, {1700, 1700}, {1701, 1700}, {1700, lastYear + 1}, {-1, 1700}, {1700, 1702, 1702}, {1702, 1701, 1703}, {math.MinInt64, 1700}, {1700, math.MaxInt64}}
}

func TestErrorsOfPlaces(t *testing.T) {
	for _, p := range []api.Parish{spread(), clashing(), full()} {
		for _, years := range wrongYears() {
			wantError(t, "P6.3: Places of no years", api.ErrArg, all(walk.Places(p, years))...)
			wantError(t, "P6.3: Joint of no years", api.ErrArg, all(walk.Joint(p, years))...)
			wantError(t, "P6.5: Disputed of no years", api.ErrArg, all(walk.Disputed(p, years))...)
			wantError(t, "P6.6: Fits of no years", api.ErrArg, all(walk.Fits(p, years, nil))...)
		}
	}
	// In 1711 and later only the stones 1 to 3 are present.
	for _, x := range []struct {
		years []int
		e     api.Errno
	}{
		{[]int{1700, 1701, 1709, 1710}, api.OK},
		{[]int{1700, 1701, 1709, 1710, 1711}, api.ErrLimit},
		{[]int{1700, 1701, 1702}, api.ErrClash},
		{[]int{1697, 1698, 1699, 1700, 1701, 1705}, api.ErrClash},
		{[]int{1698, 1699, 1700, 1701, 1705, 1709, 1710, 1711}, api.ErrClash},
		{[]int{1700, 1701, 1709, 1710, 1711, 1712}, api.ErrLimit},
	} {
		wantError(t, "P6.3: Places with an impossible life", x.e, all(walk.Places(clashing(), x.years))...)
		wantError(t, "P6.3: Joint with an impossible life", x.e, all(walk.Joint(clashing(), x.years))...)
	}
}

// late returns a parish with a stone whose life is impossible from 1730 on, when many places are known.
func late() api.Parish {
	p := example()
	for i := range p.Stones {
		s := &p.Stones[i].Life.Sights[1]
		s.Year = 1750
	}
	p.Stones = append(p.Stones, marked(4, 5, 5, sight(1, 1730, box(0, 0, 0, 0)), sight(2, 1740, box(1, 1, 0, 0))))
	return p
}

func TestALateErrorComesBeforeTheLimit(t *testing.T) {
	var years []int
	for year := 1700; year < 1730; year++ {
		years = append(years, year)
	}
	wantError(t, "P6.3: Places of too many", api.ErrLimit, all(walk.Places(late(), years))...)
	wantError(t, "P6.3: Places of too many and an impossible life", api.ErrClash, all(walk.Places(late(), append(years, 1735)))...)
}

// TestManyYears also shows that long lives are not followed again for each year.
func TestManyYears(t *testing.T) {
	var p api.Parish
	p.Changes = 8
	for n := range 6 {
		m := marked(n+1, 10, 10)
		for k := range 9 {
			m.Life.Sights = append(m.Life.Sights, sight(k+1, 500*k, box(0, 9, 0, 9)))
		}
		p.Stones = append(p.Stones, m)
	}
	var years []int
	for year := range lastYear + 1 {
		years = append(years, year)
	}
	wantError(t, "P6.3: Places of all years", api.ErrLimit, all(walk.Places(p, years))...)
	p.Stones = []api.Marked{marked(4, 0, 0, sight(1, 17, box(0, 9, 0, 9)), sight(2, 18, box(0, 9, 0, 9)))}
	l, e := walk.Places(p, years)
	if !slices.Equal(l, []api.Stood{{Number: 4, Year: 17}, {Number: 4, Year: 18}}) || e != api.OK {
		t.Errorf("P6.3: Places of all years is %v, %d", l, e)
	}
}

// lived returns a parish with one stone that was moved in its first gap or later, and stayed in the second one.
func lived(changes int) api.Parish {
	p := parish([]api.Marked{marked(6, 7, 9,
		sight(1, 1700, one(at(0, 0))), sight(2, 1710, one(at(4, 4))), sight(3, 1720, one(at(4, 4))), sight(4, 1730, one(at(4, 5))))})
	p.Stones[0].Life.Notes = []api.Note{{ID: 9, Kind: api.GaSame, From: 1705, To: 1725}}
	p.Changes = changes
	return p
}

func TestReach(t *testing.T) {
	for _, x := range []struct{ changes, from, to, want int }{
		{0, 1700, 1730, 0},
		{2, 1700, 1730, 18}, {3, 1700, 1701, 27}, {8, 1709, 1710, 72}, {2, 1709, 1711, 18},
		{2, 1710, 1720, 0}, {2, 1711, 1719, 0}, {2, 1710, 1711, 0}, {2, 1719, 1720, 0},
		{2, 1710, 1721, 18}, {2, 1720, 1721, 18}, {2, 1729, 1730, 18}, {2, 1725, 4000, 18},
		{2, 1730, 1731, 0}, {2, 1730, 4000, 0}, {2, 0, 1700, 0}, {2, 0, 1701, 18}, {2, 0, 4000, 18}, {2, 0, 1, 0},
	} {
		far, e := walk.Reach(lived(x.changes), 6, x.from, x.to)
		if far != x.want || e != api.OK {
			t.Errorf("P6.2: Reach from %d to %d with %d changes is %d, %d, not %d", x.from, x.to, x.changes, far, e, x.want)
		}
	}
	p := lived(3)
	p.Stones[0].Life.Habit = api.Habit{Step: 11, Place: 2}
	if far, e := walk.Reach(p, 6, 1700, 1701); far != 33 || e != api.OK {
		t.Errorf("P6.2: Reach with the greater Step is %d, %d", far, e)
	}
	if far, e := walk.Reach(full(), greatID, 0, 1); far != 80000 || e != api.OK {
		t.Errorf("P6.2: the greatest Reach is %d, %d", far, e)
	}
}

func TestErrorsOfReach(t *testing.T) {
	wrong := [][2]int{{1700, 1700}, {1701, 1700}, {-1, 1700}, {1700, lastYear + 1}, {math.MinInt64, math.MaxInt64}, {math.MaxInt64, math.MinInt64}}
	impossible := lived(2)
	impossible.Stones[0].Life.Notes[0].From = 1700
	for _, p := range []api.Parish{lived(0), lived(2), impossible} {
		for _, number := range []int{0, -1, 5, math.MaxInt64} {
			wantError(t, "P6.2: Reach of no stone", api.ErrNone, all(walk.Reach(p, number, 1700, 1701))...)
			wantError(t, "P6.2: Reach of no stone in no years", api.ErrNone, all(walk.Reach(p, number, 1701, 1700))...)
		}
		for _, x := range wrong {
			wantError(t, "P6.2: Reach in no years", api.ErrArg, all(walk.Reach(p, 6, x[0], x[1]))...)
		}
	}
	for _, x := range [][2]int{{1700, 1701}, {1720, 1721}, {0, 1}} {
		wantError(t, "P6.2: Reach of an impossible life", api.ErrClash, all(walk.Reach(impossible, 6, x[0], x[1]))...)
	}
	impossible.Changes = 0
	wantError(t, "P6.2: Reach of an impossible life without changes", api.OK, all(walk.Reach(impossible, 6, 1700, 1701))...)
}

func TestPlacesOfRandomParishes(t *testing.T) {
	r := newRand(6, 3)
	reaches := 0
	for i := range 300 {
		p := randomWorld(r, []scale{tiny, small, large}[i%3]).parish
		years := someYears(r)
		places, _ := slowPlaces(p, years)
		if len(places) <= 12 {
			l, e := walk.Places(p, years)
			if !slices.Equal(l, places) || e != api.OK {
				t.Fatalf("P6.3: Places in %v of %v is %v, %d, not %v", years, p, l, e, places)
			}
		}
		for _, year := range years {
			here, _ := slowPlaces(p, []int{year})
			l, e := walk.Present(p, year)
			if len(l) != len(here) || e != api.OK {
				t.Fatalf("P6.2: Present in %d of %v is %v, %d", year, p, l, e)
			}
			for i, s := range here {
				if l[i] != s.Number {
					t.Fatalf("P6.2: Present in %d of %v is %v", year, p, l)
				}
			}
		}
		for _, s := range p.Stones {
			from := 1698 + r.IntN(14)
			to := from + 1 + r.IntN(8)
			far, e := walk.Reach(p, s.Number, from, to)
			if want := slowReach(p, s, from, to); far != want || e != api.OK {
				kinds, _ := stone.Kinds(s.Life)
				t.Fatalf("P6.2: Reach from %d to %d of %v, %v, is %d, %d, not %d", from, to, s, kinds, far, e, want)
			} else if want > 0 {
				reaches++
			}
		}
	}
	if reaches < 100 {
		t.Errorf("P6.2: these parishes test little: %d reaches", reaches)
	}
}
