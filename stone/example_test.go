package stone_test

import (
	"fmt"

	"boundstone/api"
	"boundstone/stone"
)

// The example of README.md.
func Example() {
	here := func(xlo, xhi, ylo, yhi int) api.Box {
		return api.Box{X: api.Span{Lo: xlo, Hi: xhi}, Y: api.Span{Lo: ylo, Hi: yhi}}
	}
	l := api.Life{
		Habit: api.Habit{Step: 10, Place: 3, Sink: 1},
		Sights: []api.Sight{
			{ID: 1, Year: 1700, At: here(0, 5, 0, 5), Letters: "A.", Height: api.Span{Lo: 20, Hi: 30}},
			{ID: 2, Year: 1710, At: here(4, 9, 3, 9), Letters: ".B", Height: api.Span{Lo: 5, Hi: 25}},
			{ID: 3, Year: 1720, At: here(17, 22, 3, 4), Letters: "A.", Height: api.Span{Lo: 0, Hi: 40}},
		},
	}
	fmt.Println(stone.Kinds(l))
	course, e := stone.Least(l)
	fmt.Println(len(course), e)
	changed := []int{api.GaReplaced, api.GaMoved}
	fmt.Println(stone.Places(l, changed))
	fmt.Println(stone.Letters(l, changed))
	x, e := stone.Example(l, changed)
	fmt.Println(len(x.Points), e)
	fmt.Println(stone.True(l, x))
	fmt.Println(stone.In(l, 1715, 2))
	fmt.Println(stone.Needs(l))
	one, two := l.Sights[:1], l.Sights[1:]
	fmt.Println(stone.Match(l.Habit, one, two))
	// Output:
	// [6 2] 0
	// 2 0
	// [{{4 5} {0 5}} {{7 8} {3 8}} {{17 18} {3 4}}] 0
	// [A. AB AB] 0
	// 3 0
	// 0 true 0
	// {{7 19} {3 9}} 0
	// [1 3] 0
	// [{0 0}] 0
}
