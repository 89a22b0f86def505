package gather_test

import (
	"fmt"

	"roundelay/api"
	"roundelay/arena"
	"roundelay/claim"
	"roundelay/count"
	"roundelay/dir"
	"roundelay/fields"
	"roundelay/gather"
	"roundelay/ops"
)

func Example() {
	a, _ := arena.New(100)
	c := claim.New(a, 7)
	for !c.Done() {
		c.Step()
	}
	own, _ := c.Place()
	e := count.Enter(a, own)
	e.Step()
	o, _ := ops.Parse("enqueue 5")
	number, _ := ops.Pack(o)
	note, _ := fields.Note(1, number)
	ask, _ := dir.Word(own, api.Ask)
	told, _ := dir.Word(own, api.Told)
	a.Write(ask, note)
	for range 2 {
		g, steps := gather.New(a), 0
		for ; !g.Done(); steps++ {
			g.Step()
		}
		fmt.Println(g.Asked(), steps)
		// It is answered: done 1.
		a.Write(told, 1<<32+1)
	}
	// Output:
	// [{{65537 0} 1 {1 0 5 0}}] 5
	// [] 5
}

// Nobody is there, in no segment.
func ExampleNew() {
	a, _ := arena.New(100)
	g := gather.New(a)
	for !g.Done() {
		g.Step()
	}
	fmt.Println(a.Tally().Reads, g.Asked())
	// Output:
	// 1 []
}
