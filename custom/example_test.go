package custom_test

import (
	"fmt"

	"boundstone/api"
	"boundstone/custom"
)

// The example of README.md.
func Example() {
	l, e, at := custom.Parse("takes(F, V) if side(F, V), not held(F). held(F) if orchard(F). takes(F, V) if orchard(F), stream(V).")
	fmt.Println(len(l), e, at)
	base := []api.Atom{}
	for _, s := range []string{"side(4, 1)", "side(6, 2)", "orchard(4)", "stream(2)"} {
		a, e, at := custom.ParseAtom(s)
		fmt.Println(e, at)
		base = append(base, a)
	}
	pattern, e, at := custom.ParseAtom("takes(F, V)")
	fmt.Println(e, at)
	taken, e := custom.Ask(l, base, pattern)
	fmt.Println(taken, e)
	steps, e := custom.Derive(l, base)
	fmt.Println(len(steps), e)
	fmt.Println(custom.CheckSteps(l, base, steps))
	indices, e := custom.Why(steps, taken[0])
	for _, i := range indices {
		fmt.Println(custom.PrintAtom(steps[i].Atom))
	}
	strata, e := custom.Strata(l)
	fmt.Println(strata, e)
	customs := []api.Custom{{ID: 3, From: 1700, To: 4000, Clauses: l[:1]}}
	customs, e = custom.Add(customs, api.Custom{ID: 5, From: 1715, To: 1730, Clauses: l[1:]})
	fmt.Println(len(customs), e)
	reach, e := custom.Reach(customs, 1710)
	fmt.Println(reach, e)
	ids, e := custom.Rests(customs, base, 1720, taken[0])
	fmt.Println(ids, e)
	with, without, e := custom.Effect(customs, base, 1720, 5)
	fmt.Println(with, without, e)
	// Output:
	// 3 0 0
	// 0 0
	// 0 0
	// 0 0
	// 0 0
	// 0 0
	// [{takes [{1 4 } {1 2 }]} {takes [{1 6 } {1 2 }]}] 0
	// 7 0
	// 0
	// orchard(4) 0
	// stream(2) 0
	// takes(4, 2) 0
	// [{held 1 0} {orchard 1 0} {side 2 0} {stream 1 0} {takes 2 1}] 0
	// 2 0
	// {1700 1714} 0
	// [5] 0
	// [{held [{1 4 }]} {takes [{1 4 } {1 2 }]}] [{takes [{1 4 } {1 1 }]}] 0
}
