package model_test

import (
	"fmt"

	"roundelay/api"
	"roundelay/model"
	"roundelay/ops"
)

func Example() {
	m := model.New()
	for _, s := range []string{
		"enqueue 5", "dequeue", "dequeue",
		"put 3 7", "floor 200", "swap 3 4 5", "swap 3 7 5",
		"acquire 2", "set 2 1", "acquire 2", "acquire 2",
		"none",
	} {
		o, _ := ops.Parse(s)
		fmt.Println(s+":", ops.TextResp(m.Apply(o)))
	}
	fmt.Println(m.Size(), m.Queue(), m.Pairs(), m.Sems())
	c := m.Clone()
	for _, r := range c.Run(api.Op{Code: api.Enqueue, A: 9}, api.Op{Code: api.QueueLen}) {
		fmt.Println(ops.TextResp(r))
	}
	fmt.Println(m.Queue(), c.Queue(), model.Same(m, c))
	// Output:
	// enqueue 5: done 1
	// dequeue: done 5
	// dequeue: none
	// put 3 7: none
	// floor 200: done 3079
	// swap 3 4 5: unlike 7
	// swap 3 7 5: done 7
	// acquire 2: none
	// set 2 1: none
	// acquire 2: done 0
	// acquire 2: busy
	// none: none
	// 2 [] [{3 5}] [{2 0}]
	// done 1
	// done 1
	// [] [9] false
}
