package dir_test

import (
	"fmt"

	"roundelay/api"
	"roundelay/dir"
)

func Example() {
	fmt.Println(dir.Segment(5))
	fmt.Println(dir.Path(5))
	fmt.Println(dir.Slot(2, 6))
	fmt.Println(dir.Size(2), dir.Fixed(2))
	p := api.Place{Seg: 65537, Slot: 5}
	fmt.Println(dir.Word(p, api.Told))
	fmt.Println(dir.Counter(p.Seg, 2, 6))
	fmt.Println(dir.Counter(p.Seg, 2, 8))
	fmt.Println(dir.Segment(255))
	// Output:
	// 2 2 true
	// [6 3 1]
	// 5 true
	// 28 {0 3}
	// {65537 12} true
	// {65537 26} true
	// {0 0} false
	// 0 0 false
}
