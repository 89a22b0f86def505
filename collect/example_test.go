package collect_test

import (
	"fmt"

	"roundelay/api"
	"roundelay/arena"
	"roundelay/claim"
	"roundelay/collect"
	"roundelay/count"
)

func Example() {
	a, _ := arena.New(100)
	for token := range 3 {
		c := claim.New(a, uint64(1+token))
		for !c.Done() {
			c.Step()
		}
		if p, ok := c.Place(); ok && p.Slot != 1 {
			e := count.Enter(a, p)
			for !e.Done() {
				e.Step()
			}
		}
	}
	c := collect.New(a)
	steps := 0
	for !c.Done() {
		c.Step()
		steps++
	}
	fmt.Println(c.Places(), steps)
	fmt.Println(c.Seg(0), c.Seg(1), c.Seg(2))
	// Output:
	// [{65537 0} {131074 2}] 7
	// 65537 131074 0
}

// Nobody is there, in one segment.
func ExampleNew() {
	a, _ := arena.New(100)
	seg, _ := a.Lay(make([]uint64, 7)...)
	a.Write(api.Addr{At: 1}, seg)
	c := collect.New(a)
	for !c.Done() {
		c.Step()
	}
	fmt.Println(a.Tally().Reads)
	fmt.Println(c.Places(), c.Seg(0))
	// Output:
	// 3
	// [] 65537
}
