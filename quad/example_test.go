package quad_test

import (
	"fmt"

	"roundelay/api"
	"roundelay/arena"
	"roundelay/quad"
)

func Example() {
	var digits []int
	for level := range api.Levels {
		digits = append(digits, quad.Digit(27, level))
	}
	fmt.Println(digits)
	a, _ := arena.New(100)
	word := uint64(1000 + 1)
	for level := api.Levels - 1; level >= 0; level-- {
		n := quad.With(api.Node{}, quad.Digit(27, level), word)
		word, _ = a.Lay(n[:]...)
	}
	fmt.Println(quad.List(a, word))
	fmt.Println(quad.Handles(a, word))
	fmt.Println(quad.List(a, word+1))
	fmt.Println(quad.Greatest(api.Node{7, 0, 8, 0}, 1))
	// Output:
	// [0 1 2 3]
	// [{27 1000}] true
	// [262148 196611 131074 65537] true
	// [] false
	// 0 true
}
