package search_test

import (
	"fmt"

	"boundstone/api"
	"boundstone/search"
)

// The example of README.md.
func Example() {
	p := api.Problem{
		Boxes: []api.Box{{}, {X: api.Span{Lo: -5, Hi: 5}, Y: api.Span{Lo: -5, Hi: 5}}},
		Facts: []api.Fact{
			{ID: 4, Kind: api.FaDist, A: 0, B: 1, Span: api.Span{Lo: 25, Hi: 25}},
			{ID: 7, Kind: api.FaQuarter, A: 0, B: 1, Quarter: api.East},
		},
	}
	fmt.Println(search.Narrow(p))
	fmt.Println(search.Count(p))
	x, e := search.Extent(p, 1)
	fmt.Println(x.Box, e, search.CheckExtent(p, 1, x))
	far := api.Fact{Kind: api.FaDist, A: 0, B: 1, Span: api.Span{Lo: 20, Hi: 30}}
	fmt.Println(search.Decide(p, far))
	tree, e := search.Prove(p, far)
	fmt.Println(e, search.CheckProof(p, far, tree))
	two := api.Fact{ID: 9, Kind: api.FaEast, A: 0, B: 1, Span: api.Span{Lo: 2, Hi: 2}}
	p.Facts = append(p.Facts, two)
	fmt.Println(search.Core(p))
	// Output:
	// [{{0 0} {0 0}} {{3 5} {-4 4}}] 0
	// 3 0
	// {{4 5} {-3 3}} 0 0
	// 2 0
	// 0 0
	// [4 9] 0
}
