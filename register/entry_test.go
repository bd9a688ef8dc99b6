package register_test

import (
	"math"
	"reflect"
	"slices"
	"testing"

	"boundstone/api"
	"boundstone/register"
)

// kinds is all kinds of entries.
var kinds = []int{1, 2, 3, 4, 5, 6, 7, 8, 9, 10, 11, 12, 13, 14, 15, 16}

// fieldsOf returns the fields that an entry of a kind has, by the chapter.
func fieldsOf(kind int) []string {
	return [][]string{
		nil, {"Chain"}, {"Proof"}, {"Repair"}, {"Stone", "Habit", "Sight"}, {"Stone", "Sight"}, {"Stone", "Note"}, {"Ring", "Changes"}, {"Witness"}, {"By", "Walk"},
		{"Field"}, {"Paid"}, {"Rule"}, {"Claim"}, {"Target"}, {"Target", "Vestry"}, {"Target"},
	}[kind]
}

// sample returns a formed entry of a kind, none of whose fields is zero; what it says makes no sense.
func sample(kind int) api.Entry {
	e := api.Entry{Written: 1700, Kind: kind}
	for _, f := range fieldsOf(kind) {
		v := reflect.ValueOf(&e).Elem().FieldByName(f)
		v.Set(reflect.ValueOf(nonsense()).FieldByName(f))
	}
	if kind == api.EnBack {
		e.Target.Vestry = 0
	}
	return e
}

// nonsense returns an entry all of whose fields are not zero, but for the IDs that come from names.
func nonsense() api.Entry {
	return api.Entry{
		Written: 1701, Kind: 17,
		Chain:   api.Chain{ID: -1, Year: 2, Made: span(4, 3), Wear: -5},
		Proof:   api.Proof{Chain: -1, Year: -2, Long: span(8, 3)},
		Repair:  api.Repair{Chain: -1, Year: -2, Made: span(8, 3)},
		Stone:   -7,
		Habit:   api.Habit{Step: -1, Place: 1 << 30, Sink: 3},
		Sight:   api.Sight{Year: -1, At: box(4, 3, 2, 1), Letters: "no letters?", Height: span(3, 2)},
		Note:    api.Note{Kind: 9, From: 8, To: 7},
		Ring:    []int{0, 0, -1},
		Changes: -1,
		Witness: api.Witness{ID: -1, Right: -2, Wrong: -3},
		By:      -4,
		Walk:    api.Walk{Year: -1, Legs: []api.Leg{leg(-1, -1, 9, -1, -100, -3)}, Offsets: []api.Offset{{A: 1, B: 1, C: 1, Left: true}}},
		Field:   api.Field{Number: -1, At: at(1<<40, 0), Pence: -1},
		Paid:    api.Paid{Field: -1, Year: -1, Vestry: 7, Pence: -1},
		Rule:    api.Rule{From: 9, To: 8, Source: "no ( source"},
		Claim:   api.Claim{Field: -1, Year: 1 << 50, Until: -1},
		Target:  name(77, 3),
		Vestry:  -9,
	}
}

func TestFormedEntries(t *testing.T) {
	for _, kind := range kinds {
		for _, written := range []int{0, 1, 1700, lastYear} {
			if e := register.CheckEntry(in(written, sample(kind))); e != api.OK {
				t.Errorf("P9.1: CheckEntry of %v is %d", in(written, sample(kind)), e)
			}
		}
		empty := api.Entry{Kind: kind, Ring: []int{}, Walk: api.Walk{Legs: []api.Leg{}, Offsets: []api.Offset{}}}
		if kind >= api.EnAnswer {
			empty.Target.Line = 1
		}
		if e := register.CheckEntry(empty); e != api.OK {
			t.Errorf("P9.1: CheckEntry of an entry of the kind %d with empty lists is %d", kind, e)
		}
	}
}

func TestFieldsOfOtherKinds(t *testing.T) {
	names := reflect.TypeFor[api.Entry]()
	for _, kind := range kinds {
		for i := range names.NumField() {
			f := names.Field(i).Name
			if slices.Contains([]string{"Written", "Kind"}, f) || slices.Contains(fieldsOf(kind), f) {
				continue
			}
			e := sample(kind)
			reflect.ValueOf(&e).Elem().Field(i).Set(reflect.ValueOf(nonsense()).Field(i))
			wantError(t, "P9.1: CheckEntry of an entry with the field "+f+" of another kind", api.ErrArg, register.CheckEntry(e))
		}
	}
}

// eachNumber calls a function for each number, text and bool of a value, one after the other, with a setter that makes it another one.
func eachNumber(v reflect.Value, do func(change func())) {
	switch v.Kind() {
	case reflect.Int:
		do(func() { v.SetInt(v.Int() + 1) })
	case reflect.String:
		do(func() { v.SetString(v.String() + "A") })
	case reflect.Bool:
		do(func() { v.SetBool(!v.Bool()) })
	case reflect.Slice:
		for i := range v.Len() {
			eachNumber(v.Index(i), do)
		}
	case reflect.Struct:
		for i := range v.NumField() {
			eachNumber(v.Field(i), do)
		}
	}
}

func TestEachNumberOfOtherKinds(t *testing.T) {
	// Each single number that is not zero counts, however deep it stands.
	var zero api.Entry
	n := 0
	for _, kind := range []int{api.EnChain, api.EnWitness, api.EnBack} {
		count := 0
		eachNumber(reflect.ValueOf(&zero).Elem(), func(func()) { count++ })
		for i := range count {
			e := plain(zero)
			k := 0
			eachNumber(reflect.ValueOf(&e).Elem(), func(change func()) {
				if k == i {
					change()
				}
				k++
			})
			if e.Written != 0 || e.Kind != 0 || kind == api.EnChain && e.Chain != (api.Chain{}) || kind == api.EnWitness && e.Witness != (api.Witness{}) || e.Target.Line != 0 {
				continue
			}
			e.Kind = kind
			if kind == api.EnBack {
				e.Target.Line = 1
			}
			wantError(t, "P9.1: CheckEntry of an entry with a number of another kind", api.ErrArg, register.CheckEntry(e))
			n++
		}
		for _, e := range []api.Entry{{Ring: []int{0}}, {Walk: api.Walk{Legs: []api.Leg{{}}}}, {Walk: api.Walk{Offsets: []api.Offset{{}}}}} {
			e.Kind = kind
			if kind == api.EnBack {
				e.Target.Line = 1
			}
			wantError(t, "P9.1: CheckEntry of an entry with a list of another kind", api.ErrArg, register.CheckEntry(e))
		}
	}
	if n < 150 {
		t.Errorf("P9.1: only %d numbers were tried", n)
	}
}

// unformed returns entries that are not formed.
func unformed() []api.Entry {
	l := []api.Entry{{}, nonsense(), in(1700, api.Entry{Kind: 0}), in(1700, api.Entry{Kind: -1}), in(1700, api.Entry{Kind: 17}), {Kind: math.MaxInt64}, {Kind: math.MinInt64}}
	add := func(kind int, change func(e *api.Entry)) {
		e := plain(sample(kind))
		change(&e)
		l = append(l, e)
	}
	for _, kind := range kinds {
		for _, year := range []int{-1, lastYear + 1, math.MinInt64, math.MaxInt64} {
			add(kind, func(e *api.Entry) { e.Written = year })
		}
	}
	for _, id := range []int{-1, 1, 1001} {
		add(api.EnProof, func(e *api.Entry) { e.Proof.ID = id })
		add(api.EnRepair, func(e *api.Entry) { e.Repair.ID = id })
		add(api.EnStone, func(e *api.Entry) { e.Sight.ID = id })
		add(api.EnSight, func(e *api.Entry) { e.Sight.ID = id })
		add(api.EnNote, func(e *api.Entry) { e.Note.ID = id })
		add(api.EnWalk, func(e *api.Entry) { e.Walk.ID = id })
	}
	add(api.EnWalk, func(e *api.Entry) { e.Walk.Year++ })
	add(api.EnWalk, func(e *api.Entry) { e.Walk.Legs[0].Measure.Year++ })
	add(api.EnWalk, func(e *api.Entry) {
		e.Walk.Legs = append(e.Walk.Legs, e.Walk.Legs[0])
		e.Walk.Legs[1].Measure.Year--
	})
	for _, line := range []int{0, -1, lastLine + 1, math.MaxInt64, math.MinInt64} {
		add(api.EnAnswer, func(e *api.Entry) { e.Target.Line = line })
		add(api.EnRuling, func(e *api.Entry) { e.Target.Line = line })
		add(api.EnBack, func(e *api.Entry) { e.Target.Line = line })
	}
	for _, vestry := range []int{1, 2, -1, 3} {
		add(api.EnBack, func(e *api.Entry) { e.Target.Vestry = vestry })
	}
	return l
}

func TestUnformedEntries(t *testing.T) {
	for _, e := range unformed() {
		wantError(t, "P9.1: CheckEntry of an entry that is not formed", api.ErrArg, register.CheckEntry(e))
		wantError(t, "P9.1: Words of an entry that is not formed", api.ErrArg, all(register.Words(e))...)
		wantError(t, "P9.2: Book of an entry that is not formed", api.ErrArg, all(register.Book([]api.Entry{back(1), e}))...)
		wantError(t, "P9.3: Effective of an entry that is not formed", api.ErrArg, all(register.Effective([]api.Entered{{Name: name(1, 1), Entry: e}}, 1700))...)
	}
}

func TestTargetsAtTheLimits(t *testing.T) {
	for _, vestry := range []int{0, 1, 2, 3, -1, math.MaxInt64, math.MinInt64} {
		for _, line := range []int{1, lastLine} {
			for _, e := range []api.Entry{answer(vestry, line), ruling(vestry, line, -5), back(line)} {
				if got := register.CheckEntry(e); got != api.OK {
					t.Errorf("P9.1: CheckEntry of %v is %d", e, got)
				}
			}
		}
	}
}

// changedEntries returns formed entries that differ from a formed one in one number, text, bool or list.
func changedEntries(e api.Entry) []api.Entry {
	count := 0
	eachNumber(reflect.ValueOf(&e).Elem(), func(func()) { count++ })
	var l []api.Entry
	add := func(other api.Entry) {
		if register.CheckEntry(other) == api.OK {
			l = append(l, other)
		}
	}
	for i := range count {
		other, k := plain(e), 0
		eachNumber(reflect.ValueOf(&other).Elem(), func(change func()) {
			if k == i {
				change()
			}
			k++
		})
		add(other)
	}
	if e.Kind == api.EnBounds {
		longer := plain(e)
		longer.Ring = append(longer.Ring, 0)
		add(longer)
	}
	if e.Kind == api.EnWalk {
		longer, years := plain(e), plain(e)
		longer.Walk.Offsets = append(longer.Walk.Offsets, api.Offset{})
		add(longer)
		years.Walk.Year++
		years.Walk.Legs[0].Measure.Year++
		add(years)
	}
	return l
}

func TestChangedEntriesAreMany(t *testing.T) {
	want := []int{0, 6, 5, 5, 13, 10, 5, 6, 4, 15, 5, 5, 4, 4, 4, 4, 2} // an answer may be a ruling, too
	for _, kind := range kinds {
		if n := len(changedEntries(sample(kind))); n != want[kind] {
			t.Errorf("P9.1: there are %d formed entries that differ a little from one of the kind %d, not %d", n, kind, want[kind])
		}
	}
}
