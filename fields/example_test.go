package fields_test

import (
	"fmt"

	"roundelay/fields"
)

func Example() {
	h, _ := fields.Handle(1, 1)
	r, _ := fields.Root(h, 5)
	n, _ := fields.Next(r)
	w, _ := fields.Note(1, 5)
	fmt.Println(h, r, n, fields.Top(n), w)
	fmt.Println(fields.Handle(0, 1))
	// Output:
	// 65537 68720525317 68720525318 65537 4294967301
	// 0 false
}
