package sheet_test

import (
	"fmt"

	"boundstone/api"
	"boundstone/sheet"
)

// The example of README.md.
func ExampleCollate() {
	s, _ := sheet.Sheet([][]string{{"oak", "12"}, {"elm"}})
	one, _ := sheet.Harmed(s, []api.Harm{{Kind: api.HaBlot, A: 0, B: 5}, {Kind: api.HaLost, A: 1}})
	two, _ := sheet.Harmed(s, []api.Harm{{Kind: api.HaBlot, A: 0, B: 6}})
	book, _ := sheet.Collate([]string{one, two})
	for _, f := range book.Lines {
		fmt.Println(f.Line.Number, f.Line.Words, f.Copies, f.Restored)
	}
	fmt.Println(sheet.Whole(book))
	// Output:
	// 1 [oak 12] [0 1] true
	// 2 [elm] [1] false
	// [[oak 12] [elm]] 0
}
