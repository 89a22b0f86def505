package head_test

import (
	"fmt"

	"roundelay/api"
	"roundelay/arena"
	"roundelay/head"
)

func Example() {
	fmt.Println(head.Words(0, api.Version{}))
	fmt.Println(head.Words(0, api.Version{Front: 256}))
	a, _ := arena.New(100)
	w, _ := head.EntryWords(api.Entry{Slot: 2, Note: 4294967301})
	cursor, _ := a.Lay(w...)
	w, _ = head.EntryWords(api.Entry{Slot: 0, Note: 30064771073, Next: cursor})
	cursor, _ = a.Lay(w...)
	fmt.Println(head.List(a, cursor))
	fmt.Println(head.Handles(a, cursor))
	w, _ = head.Words(cursor, api.Version{Front: 1})
	fmt.Println(w)
	fmt.Println(head.Read(w))
	fmt.Println(head.Read(w[:7]))
	fmt.Println(head.List(a, 1))
	// Output:
	// [0 0 0 0 0 0 0 0] true
	// [] false
	// [{0 30064771073 65537} {2 4294967301 0}] true
	// [131074 65537] true
	// [131074 0 0 0 1 0 0 0]
	// 131074 {0 0 0 1 0 0 0} true
	// 0 {0 0 0 0 0 0 0} false
	// [] false
}
