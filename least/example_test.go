package least_test

import (
	"fmt"

	"roundelay/least"
)

func Example() {
	s, _ := least.New(100)
	fmt.Println(s.Take())
	fmt.Println(s.Take())
	fmt.Println(s.Give(1) == 0)
	fmt.Println(s.Take())
	fmt.Println(s.Len(), s.High(), s.Used(2), s.Used(3))
	// Output:
	// 1 roundelay: error 0
	// 2 roundelay: error 0
	// true
	// 1 roundelay: error 0
	// 2 2 true false
}
