package hold_test

import (
	"fmt"

	"roundelay/api"
	"roundelay/arena"
	"roundelay/dir"
	"roundelay/fields"
	"roundelay/hold"
)

func Example() {
	a, _ := arena.New(100)
	seg, _ := a.Lay(make([]uint64, dir.Size(0))...)
	own := api.Place{Seg: seg, Slot: 0}
	head, _ := a.Lay(0, 0, 0, 0, 0, 0, 0, 0)
	node, _ := a.Lay(6, 0, 0, 0)
	root, _ := fields.Root(head, 0)
	a.Write(api.Addr{At: 0}, root)
	g := hold.NewGrip(a, own)
	for !g.Done() {
		g.Step()
	}
	fmt.Println(fields.Top(g.Root()), g.Out())
	f := hold.NewFetch(a, own, g.Root(), node, 4)
	for !f.Done() {
		f.Step()
	}
	fmt.Println(f.Words(), f.Out())
	next, _ := fields.Next(root)
	a.Write(api.Addr{At: 0}, next)
	f = hold.NewFetch(a, own, g.Root(), node, 4)
	for !f.Done() {
		f.Step()
	}
	fmt.Println(f.Words(), f.Out())
	c := hold.NewClear(a, own)
	for !c.Done() {
		c.Step()
	}
	x, _ := dir.Word(own, api.HoldB)
	fmt.Println(a.Read(x))
	// Output:
	// 131074 1
	// [6 0 0 0] 1
	// [] 2
	// 0 roundelay: error 0
}

// A grip has three accesses, a fetch of four words six.
func ExampleNewGrip() {
	a, _ := arena.New(100)
	seg, _ := a.Lay(make([]uint64, dir.Size(0))...)
	own := api.Place{Seg: seg, Slot: 0}
	steps := 0
	g := hold.NewGrip(a, own)
	for ; !g.Done(); steps++ {
		g.Step()
	}
	fmt.Println(steps)
	f := hold.NewFetch(a, own, g.Root(), seg, 4)
	for ; !f.Done(); steps++ {
		f.Step()
	}
	fmt.Println(steps)
	// Output:
	// 3
	// 9
}
