package register_test

import (
	"fmt"
	"reflect"
	"slices"
	"testing"

	"boundstone/api"
	"boundstone/register"
)

// spoil overwrites all memory that a value has beside itself, and the room behind its lists.
func spoil(v reflect.Value) {
	switch v.Kind() {
	case reflect.Slice:
		v = v.Slice(0, v.Cap())
		for i := range v.Len() {
			spoil(v.Index(i))
			v.Index(i).SetZero()
		}
	case reflect.Struct:
		for i := range v.NumField() {
			spoil(v.Field(i))
		}
	}
}

// grow makes room for more behind each list of a value.
func grow(v reflect.Value) {
	switch v.Kind() {
	case reflect.Slice:
		l := reflect.MakeSlice(v.Type(), v.Len(), v.Len()+5)
		reflect.Copy(l, v)
		for i := range l.Len() {
			grow(l.Index(i))
		}
		v.Set(l)
	case reflect.Struct:
		for i := range v.NumField() {
			grow(v.Field(i))
		}
	}
}

// lists returns where the memory of each list of a value begins.
func lists(v reflect.Value) []uintptr {
	var l []uintptr
	switch v.Kind() {
	case reflect.Slice:
		if v.Cap() > 0 {
			l = append(l, v.Pointer())
		}
		for i := range v.Len() {
			l = append(l, lists(v.Index(i))...)
		}
	case reflect.Struct:
		for i := range v.NumField() {
			l = append(l, lists(v.Field(i))...)
		}
	}
	return l
}

// arguments is arguments of all functions.
type arguments struct {
	Register  api.Register
	Entries   []api.Entered
	Transfers []api.Transfer
	Words     []string
	Shelf     [][]string
	Book      []api.Entry
}

func someArguments() arguments {
	l := with(land(), inBook(api.Inner, 1, north(2, 402), rule(1700, 1720, "takes(F, V) if side(F, V). p(1) if q(X, 3), not r."), paid(4, 1709, 1, 5), claim(4, 1702, 1705), note(1, api.GaSame, 1700, 1720))...)
	l[11].Entry.Walk.Offsets = []api.Offset{{A: 1, B: 2, C: 3, Left: true}}
	return arguments{
		Register: full(), Entries: l, Transfers: []api.Transfer{{Field: 4, Year: 1710, From: 1, To: 2, Pence: 5}}, Words: words("1711 walk 5 1710 1 1 3 1 7 4 37 2 1 2 3 1"),
		Shelf: [][]string{{text(1, bounds(0, 1, 2, 3))}, {text(1, north(2, 402)), text(3, back(1))}, nil}, Book: []api.Entry{north(2, 402), bounds(0, 1, 2)},
	}
}

// results returns the results of all functions that return lists.
func (a arguments) results() map[string]any {
	m := map[string]any{}
	for what, l := range calls(a.Register, 4, 1710) {
		for i, x := range l {
			m[fmt.Sprint(what, i)] = x
		}
	}
	m["P9.1: Words"], _ = register.Words(a.Book[0])
	m["P9.1: Read"], _ = register.Read(a.Words)
	m["P9.2: Gather"], _ = register.Gather(a.Shelf)
	m["P9.3: Effective"], _ = register.Effective(a.Entries, 1700)
	m["P9.3: Fold"], _ = register.Fold(a.Entries, 1700)
	m["P9.11: Needs"], _ = register.Needs(a.Entries, 1700, 4, 1710)
	m["P9.9: Transfers of some years"], _ = register.Transfers(a.Register, span(1708, 1712))
	m["P9.10: Moved"], _ = register.Moved(a.Register, api.Register{}, span(1708, 1712))
	register.CheckEntry(a.Book[0])
	register.Book(a.Book)
	register.Check(a.Register)
	register.Holds(a.Register, a.Transfers, 1, 4, 1710)
	return m
}

func TestArgumentsStay(t *testing.T) {
	a := someArguments()
	grow(reflect.ValueOf(&a).Elem())
	before := plain(a)
	a.results()
	if !same(a, before) {
		t.Errorf("R6: the calls change %v to %v", before, a)
	}
}

func TestResultsAreNewMemory(t *testing.T) {
	a := someArguments()
	grow(reflect.ValueOf(&a).Elem())
	before := plain(a)
	want := map[string]any{}
	results := a.results()
	for what, x := range results {
		c := reflect.New(reflect.TypeOf(x)).Elem()
		c.Set(reflect.ValueOf(x))
		simplify(c)
		want[what] = c.Interface()
	}
	// Results do not change with what is overwritten in arguments.
	spoil(reflect.ValueOf(a))
	for what, x := range results {
		c := reflect.New(reflect.TypeOf(x)).Elem()
		c.Set(reflect.ValueOf(x))
		simplify(c)
		if !reflect.DeepEqual(c.Interface(), want[what]) {
			t.Errorf("R6: %s shares memory with an argument", what)
		}
	}
	// Arguments do not change with what is overwritten in results.
	a = plain(before)
	grow(reflect.ValueOf(&a).Elem())
	for what, x := range a.results() {
		spoil(reflect.ValueOf(x))
		if !same(a, before) {
			t.Errorf("R6: %s shares memory with an argument", what)
		}
	}
}

func TestListsOfResultsShareNoMemory(t *testing.T) {
	for what, x := range someArguments().results() {
		l := lists(reflect.ValueOf(x))
		slices.Sort(l)
		if len(slices.Compact(slices.Clone(l))) < len(l) {
			t.Errorf("R6: two lists of %s share memory", what)
		}
	}
}
