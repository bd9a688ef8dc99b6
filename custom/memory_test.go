package custom_test

import (
	"reflect"
	"slices"
	"testing"

	"boundstone/api"
	"boundstone/custom"
)

// spoil overwrites all memory that a value has beside itself, and the room behind its lists.
func spoil(v reflect.Value) {
	switch v.Kind() {
	case reflect.Slice:
		v = v.Slice(0, v.Cap())
		for i := range v.Len() {
			spoil(v.Index(i))
			v.Index(i).SetZero()
		}
	case reflect.Struct:
		for i := range v.NumField() {
			spoil(v.Field(i))
		}
	}
}

// memory is arguments of all functions.
type memory struct {
	l       []api.Clause
	base    []api.Atom
	a       api.Atom
	steps   []api.Step
	customs []api.Custom
	more    api.Custom
}

func remembered() memory {
	steps, _ := custom.Derive(clauses(example), atoms(exampleBase))
	return memory{
		l: clauses(example), base: atoms(exampleBase), a: pattern("near(1, 3)"), steps: steps,
		customs: []api.Custom{rule(2, 0, 9, "p(X) if q(X, 3), not r(X). s(1)."), rule(4, 3, 9, example)}, more: rule(3, 2, 6, "t(X) if q(X, 1), X < 4."),
	}
}

func (m memory) copied() memory {
	return memory{
		l: copiedClauses(m.l), base: copiedAtoms(m.base), a: copiedAtoms([]api.Atom{m.a})[0], steps: copiedSteps(m.steps),
		customs: copiedCustoms(m.customs), more: copiedCustoms([]api.Custom{m.more})[0],
	}
}

// calls returns the results of all calls that return lists, by their names.
func (m memory) calls() map[string]any {
	r := make(map[string]any)
	r["Strata"], _ = custom.Strata(m.l)
	r["Relevant"], _ = custom.Relevant(m.l, "near", 2)
	r["Model"], _ = custom.Model(m.l, m.base)
	r["Ask"], _ = custom.Ask(m.l, m.base, pattern("near(X, 3)"))
	r["Derive"], _ = custom.Derive(m.l, m.base)
	r["Why"], _ = custom.Why(m.steps, m.a)
	r["Add"], _ = custom.Add(m.customs, m.more)
	r["InForce"], _ = custom.InForce(m.customs, 5)
	r["Rests"], _ = custom.Rests(m.customs, m.base, 5, m.a)
	with, without, _ := custom.Effect(m.customs, m.base, 5, 4)
	r["Effect"] = [][]api.Atom{with, without}
	custom.Check(m.l)
	custom.Print(m.l)
	custom.PrintAtom(m.a)
	custom.Compare(m.a, m.a)
	custom.Match(m.a, m.a)
	custom.Holds(m.l, m.base, m.a)
	custom.CheckSteps(m.l, m.base, m.steps)
	custom.CheckCustoms(m.customs)
	custom.Reach(m.customs, 5)
	return r
}

// grow makes room for more terms behind those of the atoms of clauses.
func grow(l []api.Clause) {
	for i, c := range l {
		l[i].Head.Args = slices.Grow(c.Head.Args, 2)
		for k, b := range c.Body {
			c.Body[k].Atom.Args = slices.Grow(b.Atom.Args, 2)
		}
	}
}

// isRoom reports whether there is nothing in this room.
func isRoom(l []api.Clause) bool {
	isZero := func(a api.Atom) bool { return a.Args[:len(a.Args)+1][len(a.Args)] == api.Term{} }
	return !slices.ContainsFunc(l, func(c api.Clause) bool {
		return !isZero(c.Head) || slices.ContainsFunc(c.Body, func(b api.Literal) bool { return !isZero(b.Atom) })
	})
}

func TestMemory(t *testing.T) {
	want := remembered().calls()
	for what := range want {
		if isNothing(want[what]) {
			t.Errorf("R6: this tests little: %s is %v", what, want[what])
		}
		m := remembered()
		m.customs, m.base = slices.Grow(m.customs, 9), slices.Grow(m.base, 9)
		grow(m.l)
		grow(m.customs[1].Clauses)
		before := m.copied()
		results := m.calls()
		if !reflect.DeepEqual(m, before) || !isRoom(m.l) || !isRoom(m.customs[1].Clauses) {
			t.Fatalf("R6: a call modifies %v, or the room behind it", before)
		}
		if !reflect.DeepEqual(results, want) {
			t.Errorf("R7: the results of calls differ: %v and %v", results, want)
		}
		spoil(reflect.ValueOf(results[what]))
		delete(results, what)
		if !reflect.DeepEqual(m, before) || !isRoom(m.l) || !reflect.DeepEqual(m.customs[:11][2:], make([]api.Custom, 9)) {
			t.Errorf("R6: the result of %s shares memory with arguments", what)
		}
		for other, x := range results {
			if !reflect.DeepEqual(x, want[other]) {
				t.Errorf("R6: the result of %s shares memory with that of %s", what, other)
			}
		}
	}
}

// separate reports whether no two lists of a value share memory.
func separate(v reflect.Value, seen map[uintptr]bool) bool {
	switch v.Kind() {
	case reflect.Slice:
		if v.Len() == 0 {
			return true
		}
		if seen[v.Pointer()] {
			return false
		}
		seen[v.Pointer()] = true
		for i := range v.Len() {
			if v.Index(i).Kind() != reflect.Struct && v.Index(i).Kind() != reflect.Slice {
				break
			}
			if !separate(v.Index(i), seen) {
				return false
			}
		}
	case reflect.Struct:
		for i := range v.NumField() {
			if v.Field(i).Kind() == reflect.Slice && !separate(v.Field(i), seen) {
				return false
			}
			if v.Field(i).Kind() == reflect.Struct && !separate(v.Field(i), seen) {
				return false
			}
		}
	}
	return true
}

func TestListsOfOneResult(t *testing.T) {
	m := remembered()
	m.base = append(m.base, m.base...) // atoms that share memory
	for what, x := range m.calls() {
		if !separate(reflect.ValueOf(x), make(map[uintptr]bool)) {
			t.Errorf("R6: lists of the result of %s share memory", what)
		}
	}
	twice := slices.Repeat(clauses("p(X) if q(X, 3)."), 2)
	l, e := custom.Add(nil, api.Custom{ID: 1, Clauses: twice})
	if e != api.OK || !separate(reflect.ValueOf(l), make(map[uintptr]bool)) {
		t.Errorf("R6: lists of the result of Add share memory")
	}
}
