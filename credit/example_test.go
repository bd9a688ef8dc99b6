package credit_test

import (
	"fmt"

	"boundstone/api"
	"boundstone/credit"
)

// The example of README.md.
func Example() {
	east := func(id, lo, hi int) api.Fact {
		return api.Fact{ID: id, Kind: api.FaEast, A: 0, B: 1, Span: api.Span{Lo: lo, Hi: hi}}
	}
	b := api.Bench{
		Witnesses: []api.Witness{{ID: 1, Right: 8}, {ID: 2}, {ID: 3, Wrong: 2}},
		Accounts:  []api.Account{{ID: 11, Witness: 1}, {ID: 12, Witness: 2}, {ID: 13, Witness: 3}},
		Problem: api.Problem{
			Boxes: []api.Box{{}, {X: api.Span{Lo: 0, Hi: 9}}},
			Facts: []api.Fact{east(11, 3, 5), east(12, 5, 7), east(13, 7, 9)},
		},
	}
	sets, e := credit.Contradictions(b)
	fmt.Println(sets, e)
	sets, e = credit.Least(b)
	fmt.Println(sets, e)
	price, e := credit.Price(b)
	fmt.Println(price, e)
	v, e := credit.Judge(b, east(0, 5, 5))
	fmt.Println(v, e)
	j, e := credit.Account(b)
	fmt.Println(j.Points, e)
	fmt.Println(credit.CheckAccount(b, j))
	later, e := credit.Learn(b, []int{13})
	fmt.Println(later.Witnesses, e)
	sets, e = credit.Hitting([][]int{{1, 2}, {2, 3}})
	fmt.Println(sets, e)
	// Output:
	// [[11 13]] 0
	// [[13]] 0
	// 250000 0
	// {2 true false} 0
	// [[{0 0} {5 0}]] 0
	// 0
	// [{1 9 0} {2 1 0} {3 0 3}] 0
	// [[2] [1 3]] 0
}
