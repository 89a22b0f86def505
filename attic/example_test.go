package attic_test

import (
	"fmt"

	"roundelay/api"
	"roundelay/arena"
	"roundelay/attic"
	"roundelay/claim"
	"roundelay/count"
	"roundelay/dir"
	"roundelay/pace"
)

func Example() {
	x := attic.New()
	x.Put(3, 65537, 131074)
	x.Put(0, 196611)
	fmt.Println(x.All(), x.Len(), x.List(3), x.List(4))
	fmt.Println(x.Take(3, 65537), x.Take(3, 65537))
	fmt.Println(x.List(3), x.Len())
	x.Note(api.Batch{Head: 262148, L: []api.Applied{{Slot: 3, Seq: 1, Op: api.Op{Code: api.Enqueue, A: 5}, Resp: api.Resp{Value: 1}}}})
	fmt.Println(x.Noted(), x.Log())
	// Output:
	// [196611 65537 131074] 3 [65537 131074] []
	// true false
	// [131074] 2
	// 1 [{262148 [{3 1 {1 0 5 0} {0 1}}]}]
}

// A list of two, one of them held: the other one is freed.
func ExampleNewSweep() {
	a, _ := arena.New(100)
	c := claim.New(a, 7)
	toEnd(c)
	own, _ := c.Place()
	toEnd(count.Enter(a, own))
	held, _ := a.Lay(1)
	free, _ := a.Lay(2)
	holdB, _ := dir.Word(own, api.HoldB)
	a.Write(holdB, held)
	x := attic.New()
	x.Put(own.Slot, held, free)
	fmt.Println(x.List(own.Slot))
	fmt.Println(toEnd(attic.NewSweep(a, x, own.Slot, 9)))
	fmt.Println(x.List(own.Slot), a.Size(held), a.Size(free))
	// Output:
	// [131074 196611]
	// 6
	// [131074] 1 0
}

func toEnd(m pace.Machine) int {
	n := 0
	for ; !m.Done(); n++ {
		m.Step()
	}
	return n
}
