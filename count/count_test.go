package count

import (
	"math"
	"slices"
	"testing"

	"roundelay/api"
	"roundelay/arena"
	"roundelay/pace"
)

// a Count is a machine.
var _ pace.Machine = &Count{}

// wordsOf a block.
func wordsOf(a *arena.Arena, h uint64) []uint64 {
	for x, words := range a.All() {
		if x == h {
			return words
		}
	}
	return nil
}

// The slot 5 has three counters: those of the nodes 6, 3 and 1.
func TestSlot5P12_1(t *testing.T) {
	a := newArena(t)
	seg, _ := a.Lay(make([]uint64, 28)...)
	c := Enter(a, api.Place{Seg: seg, Slot: 5})
	tells(t, c, false, 0, 3)
	isCounted(t, a, seg, 0, 0, 0, 0, 0, 0, 0, 0)
	c.Step()
	tells(t, c, false, 1, 3)
	isCounted(t, a, seg, 0, 0, 0, 0, 0, 0, 1, 0)
	c.Step()
	tells(t, c, false, 2, 3)
	isCounted(t, a, seg, 0, 0, 0, 1, 0, 0, 1, 0)
	c.Step()
	tells(t, c, true, 3, 3)
	isCounted(t, a, seg, 0, 1, 0, 1, 0, 0, 1, 0)
	c = Exit(a, api.Place{Seg: seg, Slot: 5}, 1, 3)
	tells(t, c, false, 1, 3)
	c.Step()
	tells(t, c, false, 2, 3)
	isCounted(t, a, seg, 0, 1, 0, 0, 0, 0, 1, 0)
	c.Step()
	tells(t, c, true, 3, 3)
	isCounted(t, a, seg, 0, 0, 0, 0, 0, 0, 1, 0)
	if a.Tally() != (api.Tally{Lays: 1, Adds: 5}) {
		t.Fatalf("%v", a.Tally())
	}
}

// isCounted: the words of the segment 2 are noughts, and behind them these counters.
func isCounted(t *testing.T, a *arena.Arena, seg uint64, want ...uint64) {
	t.Helper()
	if l := wordsOf(a, seg); !slices.Equal(l, append(make([]uint64, 20), want...)) {
		t.Fatalf("%v", l)
	}
}

// follow a count to its end, and beyond it: each step is that of the plain one, in an arena that is its like.
func follow(t *testing.T, a, b *arena.Arena, c *Count, p *plain) {
	t.Helper()
	for !p.done() {
		isSame(t, a, b)
		tells(t, c, false, p.first, p.last)
		c.Step()
		p.step()
	}
	for range 3 {
		isSame(t, a, b)
		tells(t, c, true, p.first, p.last)
		c.Step()
	}
}

func TestEnterP12_1(t *testing.T) {
	for slot := range 255 {
		for _, from := range []uint64{1000, 0, 1 << 63, math.MaxUint64 - 640} {
			a, p := placeIn(t, slot, from)
			b := a.Clone()
			follow(t, a, b, Enter(a, p), plainEnter(b, p))
		}
	}
}

func TestExitP12_1(t *testing.T) {
	for slot := range 255 {
		length := len(counters(slot))
		for first := range length + 1 {
			for last := range length + 1 {
				a, p := placeIn(t, slot, math.MaxUint64-5*uint64(slot))
				b := a.Clone()
				follow(t, a, b, Exit(a, p, first, last), plainExit(b, p, first, last))
			}
		}
	}
}

// First and last are each held from 0 to the path's length.
func TestHeldP12_1(t *testing.T) {
	below := []int{-1, -2, -8, math.MinInt32, math.MinInt}
	for _, slot := range []int{0, 1, 2, 5, 6, 14, 100, 127, 254} {
		length := len(counters(slot))
		above := []int{length, length + 1, length + 2, 255, math.MaxInt32, math.MaxInt}
		a, p := placeIn(t, slot, 1000)
		b := a.Clone()
		for n := range length + 1 {
			for _, last := range above {
				follow(t, a, b, Exit(a, p, n, last), plainExit(b, p, n, length))
				follow(t, a, b, Exit(a, p, last, n), plainExit(b, p, length, n))
			}
			for _, first := range below {
				follow(t, a, b, Exit(a, p, first, n), plainExit(b, p, 0, n))
				follow(t, a, b, Exit(a, p, n, first), plainExit(b, p, n, 0))
			}
		}
		for _, x := range below {
			for _, y := range above {
				follow(t, a, b, Exit(a, p, x, y), plainExit(b, p, 0, length))
				follow(t, a, b, Exit(a, p, y, x), plainExit(b, p, length, 0))
			}
			follow(t, a, b, Exit(a, p, x, -1), plainExit(b, p, 0, 0))
		}
	}
}

// isIdle: done from the beginning on, and nothing left, in whatever segment.
func isIdle(t *testing.T, a *arena.Arena, c *Count, first, last int) {
	t.Helper()
	was := a.Clone()
	for range 3 {
		tells(t, c, true, first, last)
		c.Step()
	}
	isSame(t, a, was)
}

func TestNoPartP12_1(t *testing.T) {
	a, p := placeIn(t, 5, 1000)
	for _, x := range [][4]int{
		{0, 0, 0, 0},
		{1, 1, 1, 1},
		{3, 3, 3, 3},
		{2, 1, 2, 1},
		{3, 0, 3, 0},
		{4, 3, 3, 3},
		{9, 8, 3, 3},
		{0, -1, 0, 0},
		{-1, 0, 0, 0},
		{-2, -1, 0, 0},
	} {
		isIdle(t, a, Exit(a, p, x[0], x[1]), x[2], x[3])
	}
}

func TestNoSlotP12_1(t *testing.T) {
	a, p := placeIn(t, 254, 1000)
	for _, slot := range []int{-1, -2, -255, math.MinInt, 255, 256, 257, 510, 511, math.MaxInt} {
		for _, seg := range []uint64{p.Seg, 0, 7, math.MaxUint64} {
			x := api.Place{Seg: seg, Slot: slot}
			isIdle(t, a, Enter(a, x), 0, 0)
			isIdle(t, a, Exit(a, x, 0, 8), 0, 0)
			isIdle(t, a, Exit(a, x, 1, 2), 0, 0)
			isIdle(t, a, Exit(a, x, 2, 1), 0, 0)
			isIdle(t, a, Exit(a, x, math.MinInt, math.MaxInt), 0, 0)
		}
	}
}

func TestNilP12_1(t *testing.T) {
	var c *Count
	for range 2 {
		tells(t, c, true, 0, 0)
		c.Step()
	}
}

// Without an arena nothing is promised but an end, and no panic.
func TestNoArena(t *testing.T) {
	for slot := -1; slot <= 255; slot++ {
		p := api.Place{Seg: 65537, Slot: slot}
		toEnd(t, Enter(nil, p))
		toEnd(t, Exit(nil, p, 0, 8))
	}
}

// Of a segment that isn't there nothing is promised either; no word of those that are there is touched, least of all the root.
func TestNoSegment(t *testing.T) {
	a, p := placeIn(t, 5, 1000)
	was := a.Clone()
	for _, seg := range []uint64{0, 7, p.Seg + 1, math.MaxUint64} {
		for slot := range 255 {
			x := api.Place{Seg: seg, Slot: slot}
			toEnd(t, Enter(a, x))
			toEnd(t, Exit(a, x, 1, 8))
		}
	}
	isAlike(t, a, was)
}

// A block that is gone counts as one that wasn't changed: the machine goes on through all of its accesses.
func TestGoneP12_1(t *testing.T) {
	a, p := placeIn(t, 100, 1000)
	b := a.Clone()
	c, q := Enter(a, p), plainEnter(b, p)
	c.Step()
	q.step()
	a.Free(p.Seg)
	b.Free(p.Seg)
	follow(t, a, b, c, q)
	if a.Faults() != 6 {
		t.Fatalf("%d faults", a.Faults())
	}
}

// A row of steps hangs on nothing that others do, be it to the counters themselves.
func TestOthersP12_1(t *testing.T) {
	a, p := placeIn(t, 5, 1000)
	b := a.Clone()
	c, q := Enter(a, p), plainEnter(b, p)
	for i, w := range []uint64{0, math.MaxUint64, 7} {
		for _, x := range []*arena.Arena{a, b} {
			for node := range 8 {
				x.Write(api.Addr{Block: p.Seg, At: 20 + node}, w)
			}
			x.Write(api.Addr{At: 3}, w)
		}
		tells(t, c, false, i, 3)
		c.Step()
		q.step()
		isSame(t, a, b)
	}
	tells(t, c, true, 3, 3)
}

// To make a count is no access; and counts of one place go on apart.
func TestApartP12_1(t *testing.T) {
	a, p := placeIn(t, 5, 1000)
	was := a.Clone()
	x, y, z := Enter(a, p), Enter(a, p), Exit(a, p, 0, 2)
	isSame(t, a, was)
	x.Step()
	x.Step()
	z.Step()
	tells(t, x, false, 2, 3)
	tells(t, y, false, 0, 3)
	tells(t, z, false, 1, 2)
	y.Step()
	z.Step()
	tells(t, x, false, 2, 3)
	tells(t, y, false, 1, 3)
	tells(t, z, true, 2, 2)
	x.Step()
	tells(t, x, true, 3, 3)
	tells(t, y, false, 1, 3)
}
