package arena_test

import (
	"fmt"

	"roundelay/api"
	"roundelay/arena"
)

func Example() {
	a, _ := arena.New(100)
	h, _ := a.Lay(5, 6)
	was, _ := a.Add(api.Addr{Block: h, At: 1}, 3)
	w, _ := a.Read(api.Addr{Block: h, At: 1})
	fmt.Println(h, was, w)
	fmt.Println(a.Swap(api.Addr{At: 0}, 0, 7))
	fmt.Println(a.Used(), a.Words())
	for h, words := range a.All() {
		fmt.Println(h, words)
	}
	fmt.Println(a.Free(h))
	fmt.Println(a.Read(api.Addr{Block: h, At: 1}))
	fmt.Println(a.Used(), a.Peak(), a.Faults())
	// Output:
	// 65537 6 9
	// true roundelay: error 0
	// 2 [7 0 0 0 0 0 0 0 0]
	// 65537 [5 9]
	// roundelay: error 0
	// 0 roundelay: error 23
	// 0 2 1
}
