package count_test

import (
	"fmt"

	"roundelay/api"
	"roundelay/arena"
	"roundelay/count"
	"roundelay/dir"
)

func Example() {
	a, _ := arena.New(100)
	seg, _ := a.Lay(make([]uint64, dir.Size(2))...)
	p := api.Place{Seg: seg, Slot: 5}
	c := count.Enter(a, p)
	fmt.Println(c.Left())
	for !c.Done() {
		c.Step()
	}
	fmt.Println(c.Left())
	top, _ := dir.Counter(seg, 2, 1)
	fmt.Println(a.Read(top))
	c = count.Exit(a, p, 0, 3)
	c.Step()
	fmt.Println(c.Left())
	first, last := c.Left()
	c = count.Exit(a, p, first, last)
	for !c.Done() {
		c.Step()
	}
	fmt.Println(a.Read(top))
	fmt.Println(count.Enter(a, api.Place{Seg: seg, Slot: 255}).Done())
	// Output:
	// 0 3
	// 3 3
	// 1 roundelay: error 0
	// 1 3
	// 0 roundelay: error 0
	// true
}
