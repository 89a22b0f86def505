package count

import (
	"testing"

	"roundelay/api"
	"roundelay/arena"
)

// segmentOf a slot, by the document's words: its number, its first slot, and how many it has.
func segmentOf(slot int) (g, first, n int) {
	n = 1
	for slot >= first+n {
		g, first, n = g+1, first+n, 2*n
	}
	return g, first, n
}

// counters of a slot's path, as places in the segment's block, the slot's own first: found from the topmost node down, by which half of the slots has it.
func counters(slot int) []int {
	_, low, n := segmentOf(slot)
	var l []int
	node, high := 1, low+n
	for {
		l = append([]int{5*n + node}, l...)
		if high-low == 1 {
			return l
		}
		node *= 2
		middle := (low + high) / 2
		if slot < middle {
			high = middle
		} else {
			node, low = node+1, middle
		}
	}
}

// plain is a count told in plain numbers: which counters are still to be done, and what to each.
type plain struct {
	arena       *arena.Arena
	seg         uint64
	counters    []int
	first, last int
	more        uint64
}

func plainEnter(a *arena.Arena, p api.Place) *plain {
	l := counters(p.Slot)
	return &plain{arena: a, seg: p.Seg, counters: l, last: len(l), more: 1}
}

// plainExit of a part that lies within the path.
func plainExit(a *arena.Arena, p api.Place, first, last int) *plain {
	return &plain{arena: a, seg: p.Seg, counters: counters(p.Slot), first: first, last: last, more: 18446744073709551615}
}

func (p *plain) done() bool { return p.first >= p.last }

func (p *plain) step() {
	if p.done() {
		return
	}
	p.arena.Add(api.Addr{Block: p.seg, At: p.counters[p.first]}, p.more)
	p.first++
}

func newArena(t *testing.T) *arena.Arena {
	t.Helper()
	a, err := arena.New(2000)
	if err != api.OK {
		t.Fatalf("New: %d", err)
	}
	return a
}

// placeIn an arena with a segment for that slot, whose words, and the fixed ones, begin with that number and go on from it: so no word is like another.
func placeIn(t *testing.T, slot int, from uint64) (*arena.Arena, api.Place) {
	t.Helper()
	a := newArena(t)
	_, _, n := segmentOf(slot)
	words := make([]uint64, 7*n)
	for i := range words {
		words[i] = from + uint64(i)
	}
	h, err := a.Lay(words...)
	if err != api.OK {
		t.Fatalf("Lay: %d", err)
	}
	for i := range api.Fixed {
		a.Write(api.Addr{At: i}, from-uint64(i)-1)
	}
	return a, api.Place{Seg: h, Slot: slot}
}

func isSame(t *testing.T, a, b *arena.Arena) {
	t.Helper()
	if !arena.Same(a, b) || a.Tally() != b.Tally() || a.Faults() != b.Faults() || a.Peak() != b.Peak() {
		t.Fatalf("arenas differ: tallies %v and %v, faults %d and %d", a.Tally(), b.Tally(), a.Faults(), b.Faults())
	}
}

// isAlike: fixed words and blocks are the same, whatever was done to come there.
func isAlike(t *testing.T, a, b *arena.Arena) {
	t.Helper()
	if !arena.Same(a, b) {
		t.Fatal("the words differ")
	}
}

// tells holds all that a count tells against what it has to.
func tells(t *testing.T, c *Count, done bool, first, last int) {
	t.Helper()
	if f, l := c.Left(); c.Done() != done || f != first || l != last {
		t.Fatalf("done %t, left from %d below %d; want %t, %d, %d", c.Done(), f, l, done, first, last)
	}
}

// toEnd goes to the end of a count, and tells in how many steps.
func toEnd(t *testing.T, c *Count) int {
	t.Helper()
	n := 0
	for ; !c.Done(); n++ {
		if n > 20 {
			t.Fatal("it is never done")
		}
		c.Step()
	}
	return n
}
