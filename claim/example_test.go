package claim_test

import (
	"fmt"

	"roundelay/api"
	"roundelay/arena"
	"roundelay/claim"
	"roundelay/dir"
)

func Example() {
	a, _ := arena.New(100)
	for token := uint64(7); token <= 9; token++ {
		c := claim.New(a, token)
		steps := 0
		for ; !c.Done(); steps++ {
			c.Step()
		}
		fmt.Println(c.Place())
		fmt.Println(steps, c.Err() == api.OK, c.Private())
	}
	own, _ := dir.Word(api.Place{Seg: 65537, Slot: 0}, api.Own)
	a.Write(own, 0)
	c := claim.New(a, 10)
	c.Step()
	fmt.Println(c.Place())
	c.Step()
	fmt.Println(c.Place())
	fmt.Println(claim.New(a, 0).Err() == api.ErrArg)
	// Output:
	// {65537 0} true
	// 4 true []
	// {131074 1} true
	// 6 true []
	// {131074 2} true
	// 5 true []
	// {0 0} false
	// {65537 0} true
	// true
}
