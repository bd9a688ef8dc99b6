package register_test

import (
	"fmt"

	"boundstone/api"
	"boundstone/register"
)

// The example of README.md.
func Example() {
	here := func(x, y int) api.Sight {
		at := api.Box{X: api.Span{Lo: x, Hi: x}, Y: api.Span{Lo: y, Hi: y}}
		return api.Sight{Year: 1700, At: at, Letters: "A"}
	}
	diocese := []api.Entry{
		{Written: 1700, Kind: api.EnStone, Stone: 1, Sight: here(0, 0)},
		{Written: 1700, Kind: api.EnStone, Stone: 2, Sight: here(300, 0)},
		{Written: 1700, Kind: api.EnStone, Stone: 3, Sight: here(0, 400)},
		{Written: 1700, Kind: api.EnBounds, Ring: []int{1, 2, 3}},
		{Written: 1700, Kind: api.EnField, Field: api.Field{Number: 4, At: api.Point{X: 100, Y: 100}, Pence: 50}},
		{Written: 1702, Kind: api.EnPaid, Paid: api.Paid{Field: 4, Year: 1700, Vestry: api.Inner, Pence: 30}},
	}
	outer := []api.Entry{{Written: 1701, Kind: api.EnClaim, Claim: api.Claim{Field: 4, Year: 1700, Until: 1705}}}
	fmt.Println(register.Words(outer[0]))
	one, e := register.Book(diocese)
	fmt.Println(len(one), e)
	two, e := register.Book(outer)
	fmt.Println(len(two), e)
	g, e := register.Gather([][]string{{one}, nil, {two}})
	fmt.Println(len(g.Entries), g.Lost, e)
	r, e := register.Fold(g.Entries, 1705)
	fmt.Println(len(r.Refused), e)
	fmt.Println(register.Side(r, 4, 1700))
	fmt.Println(register.Takes(r, 4, 1700))
	later, e := register.Fold(g.Entries, 1706)
	fmt.Println(later.Claims, e)
	fmt.Println(register.Takes(later, 4, 1700))
	years := api.Span{Lo: 1700, Hi: 1700}
	fmt.Println(register.Moved(r, later, years))
	l, e := register.Transfers(later, years)
	fmt.Println(l, e)
	fmt.Println(register.Holds(later, l, api.Outer, 4, 1700))
	fmt.Println(register.Needs(g.Entries, 1706, 4, 1700))
	// Output:
	// [1701 claim 4 1700 1705] 0
	// 257 0
	// 33 0
	// 7 [] 0
	// 0 0
	// 2 0
	// 1 0
	// [{2001 2 {4 1700 1705} 2}] 0
	// 2 0
	// [4] 0
	// [{4 1700 1 2 30} {4 1700 0 2 20}] 0
	// 50 0
	// [{0 5} {2 1}] 0
}
