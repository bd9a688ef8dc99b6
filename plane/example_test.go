package plane_test

import (
	"fmt"

	"boundstone/api"
	"boundstone/plane"
)

// The example of README.md.
func Example() {
	field := []api.Point{{X: 0, Y: 0}, {X: 4, Y: 0}, {X: 4, Y: 3}, {X: 0, Y: 3}}
	stone := api.Box{X: api.Span{Lo: 3, Hi: 4}, Y: api.Span{Lo: 1, Hi: 1}}
	fmt.Println(plane.Area(field))
	fmt.Println(plane.Where(field, api.Point{X: 1, Y: 1}))
	fmt.Println(plane.Sides(field, stone))
	fmt.Println(plane.Dists(stone, api.Box{}))
	// Output:
	// 24 0
	// 1 0
	// 6 0
	// {10 17} true
}
