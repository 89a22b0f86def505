package pace_test

import (
	"fmt"

	"roundelay/api"
	"roundelay/arena"
	"roundelay/pace"
)

// sum is a machine of one's own: it reads two words, and writes what they make together.
type sum struct {
	pace.Gear
	arena *arena.Arena
	reads *pace.Reads
	to    api.Addr
}

func newSum(a *arena.Arena, x, y, to api.Addr) *sum {
	s := &sum{arena: a, reads: pace.NewReads(a, x, y), to: to}
	s.Run(s.reads, func() { s.To(s.write) })
	return s
}

func (s *sum) write() {
	words := s.reads.Words()
	s.arena.Write(s.to, words[0]+words[1])
	s.End()
}

func Example() {
	a, _ := arena.New(100)
	lays := pace.NewLays(a, []uint64{5, 6}, []uint64{7})
	for !lays.Done() {
		lays.Step()
	}
	l := lays.Handles()
	fmt.Println(l, lays.Err() == api.OK)
	s := newSum(a, api.Addr{Block: l[0]}, api.Addr{Block: l[1]}, api.Addr{At: 8})
	steps := 0
	for ; !s.Done(); steps++ {
		s.Step()
	}
	fmt.Println(steps, a.Words()[8])
	frees := pace.NewFrees(a, l...)
	frees.Step()
	fmt.Println(frees.Done(), frees.Left())
	frees.Step()
	fmt.Println(frees.Done(), frees.Left(), a.Used())
	// Output:
	// [65537 131074] true
	// 3 12
	// false [131074]
	// true [] 0
}
