package walk_test

import (
	"fmt"

	"boundstone/api"
	"boundstone/walk"
)

// The example of README.md.
func Example() {
	seen := func(number, xlo, xhi, ylo, yhi int) api.Marked {
		at := api.Box{X: api.Span{Lo: xlo, Hi: xhi}, Y: api.Span{Lo: ylo, Hi: yhi}}
		return api.Marked{Number: number, Life: api.Life{Sights: []api.Sight{
			{ID: 1, Year: 1700, At: at, Letters: "A"},
			{ID: 2, Year: 1720, At: at, Letters: "A"},
		}}}
	}
	p := api.Parish{
		Works:  api.Works{Chains: []api.Chain{{ID: 1, Year: 1700, Made: api.Span{Lo: 10000, Hi: 10000}}}},
		Stones: []api.Marked{seen(1, 0, 0, 0, 0), seen(2, 300, 300, 0, 0), seen(3, 0, 4, 395, 405)},
		Ring:   []int{1, 2, 3},
	}
	way := api.Measure{Chain: 1, Year: 1710, Chains: 4}
	p, e := walk.With(p, api.Walk{ID: 9, Year: 1710, Legs: []api.Leg{{From: 1, To: 3, Quarter: api.North, Measure: way}}})
	fmt.Println(e)
	x, e := walk.Where(p, 1710, 3)
	fmt.Println(x.Box, e)
	fmt.Println(walk.Moved(p, 3, 1700, 1720))
	field := api.Point{X: 2, Y: 390}
	s, e := walk.Side(p, 1710, field)
	fmt.Println(s.Answer, e, walk.CheckSide(p, 1710, field, s))
	fmt.Println(walk.Area(p, 1710))
	far := api.Point{X: 2, Y: 398}
	s, e = walk.Side(p, 1709, far)
	fmt.Println(s.Answer, len(s.Ends), e)
	l := []api.Further{{From: 1, To: 2, Cost: 5}, {From: 2, To: 3, Slack: 1, Cost: 9}, {From: 3, To: 2, Cost: 20}}
	fmt.Println(walk.Cheapest(p, 1709, far, l))
	fmt.Println(walk.Readings(160001, 1))
	// Output:
	// 0
	// {{0 0} {400 400}} 0
	// 1 0
	// 2 0 0
	// {120000 120000} 0
	// 3 2 0
	// [2] 0
	// {400 401} 0
}
