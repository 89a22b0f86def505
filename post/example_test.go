package post_test

import (
	"fmt"

	"roundelay/api"
	"roundelay/arena"
	"roundelay/attic"
	"roundelay/claim"
	"roundelay/dir"
	"roundelay/head"
	"roundelay/post"
)

func Example() {
	a, _ := arena.New(100)
	c := claim.New(a, 7)
	for !c.Done() {
		c.Step()
	}
	own, _ := c.Place()
	words, _ := head.EntryWords(api.Entry{Slot: 0, Note: 4294967301})
	entry, _ := a.Lay(words...)
	words, _ = head.Words(entry, api.Version{})
	top, _ := a.Lay(words...)
	x := attic.New()
	for range 2 {
		p, steps := post.New(a, x, own, top), 0
		for ; !p.Done(); steps++ {
			p.Step()
		}
		fmt.Println(steps, p.Posted(), x.List(0))
	}
	told, _ := dir.Word(own, api.Told)
	w, _ := a.Read(told)
	fmt.Println(w)
	// Output:
	// 11 1 [131074]
	// 1 0 [131074]
	// 4294967301
}
