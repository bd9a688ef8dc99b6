package chainage_test

import (
	"fmt"

	"boundstone/api"
	"boundstone/chainage"
)

// The example of README.md.
func Example() {
	w := api.Works{
		Chains: []api.Chain{{ID: 1, Year: 1800, Made: api.Span{Lo: 10000, Hi: 10010}, Wear: 5}},
		Proofs: []api.Proof{{ID: 3, Chain: 1, Year: 1810, Long: api.Span{Lo: 10020, Hi: 10030}}},
	}
	fmt.Println(chainage.Long(w, 1, 1805))
	fmt.Println(chainage.Rests(w, 1, 1805))
	way := api.Measure{Chain: 1, Year: 1810, Chains: 3, Links: 50, Slack: 1}
	fmt.Println(chainage.Distance(w, way))
	fmt.Println(chainage.Needed(w, way))
	fmt.Println(chainage.Prove(w, 1, 1820, api.Span{Lo: 1811, Hi: 1815}))
	late := api.Proof{ID: 5, Chain: 1, Year: 1802, Long: api.Span{Lo: 10025, Hi: 10026}}
	w.Proofs = append(w.Proofs, late)
	fmt.Println(chainage.Clash(w))
	fmt.Println(chainage.Suspects(w))
	// Output:
	// {10000 10030} 0
	// 0 3 0
	// {349 353} 0
	// [3] 0
	// 1815 0
	// 0 5 true 0
	// [5] 0
}
