package ops_test

import (
	"fmt"

	"roundelay/api"
	"roundelay/ops"
)

func Example() {
	o := api.Op{Code: api.MapSwap, Key: 3, A: 4, B: 5}
	fmt.Println(ops.Right(o), ops.Text(o))
	fmt.Println(ops.Pack(o))
	fmt.Println(ops.Unpack(1882198021))
	fmt.Println(ops.Parse("enqueue 5"))
	fmt.Println(ops.Parse("enqueue 05"))
	r, _ := ops.ParseResp("done 1")
	fmt.Println(ops.TextResp(r), ops.TextResp(api.Resp{Kind: api.Full}))
	fmt.Println(ops.PackResp(r))
	fmt.Println(ops.RightResp(api.Resp{Kind: api.Busy, Value: 1}))
	// Output:
	// true swap 3 4 5
	// 1882198021 true
	// {7 3 4 5} true
	// {1 0 5 0} true
	// {0 0 0 0} false
	// done 1 full
	// 1 true
	// false
}
