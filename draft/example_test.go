package draft_test

import (
	"fmt"

	"roundelay/api"
	"roundelay/arena"
	"roundelay/draft"
	"roundelay/ops"
	"roundelay/quad"
)

// lay what a draft has anew.
func lay(a *arena.Arena, d *draft.Draft) {
	for n, ok := d.Next(); ok; n, ok = d.Next() {
		h, _ := a.Lay(n[:]...)
		fmt.Println("lay", n)
		d.Laid(h)
	}
}

func Example() {
	a, _ := arena.New(100)
	d, _ := draft.New(api.Version{})
	fmt.Println(d.Apply(api.Op{Code: api.Enqueue, A: 5}))
	lay(a, d)
	v := d.Version()
	fmt.Println(v)

	d, _ = draft.New(v)
	o := api.Op{Code: api.Enqueue, A: 6}
	r, need := d.Apply(o)
	for need != 0 {
		var n api.Node
		for i := range n {
			n[i], _ = a.Read(api.Addr{Block: need, At: i})
		}
		fmt.Println("know", need, n)
		d.Know(need, n)
		r, need = d.Apply(o)
	}
	fmt.Println(ops.TextResp(r), d.Dropped())
	lay(a, d)
	fmt.Println(quad.List(a, v.Queue))
	fmt.Println(quad.List(a, d.Version().Queue))
	// Output:
	// {0 1} 0
	// lay [6 0 0 0]
	// lay [65537 0 0 0]
	// lay [131074 0 0 0]
	// lay [196611 0 0 0]
	// {0 0 262148 0 1 0 0}
	// know 262148 [196611 0 0 0]
	// know 196611 [131074 0 0 0]
	// know 131074 [65537 0 0 0]
	// know 65537 [6 0 0 0]
	// done 2 [262148 196611 131074 65537]
	// lay [6 7 0 0]
	// lay [327685 0 0 0]
	// lay [393222 0 0 0]
	// lay [458759 0 0 0]
	// [{0 5}] true
	// [{0 5} {1 6}] true
}
