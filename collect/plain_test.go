package collect

import (
	"slices"
	"testing"

	"roundelay/api"
	"roundelay/arena"
)

// moment is what a collect tells behind so many of its reads.
type moment struct {
	places []api.Place
	segs   [8]uint64
}

// plain is a collect told by halves: a node has a row of slots, and the two below it have a half of that each.
type plain struct {
	read    func(x api.Addr) uint64
	now     moment
	moments []moment
}

func (p *plain) look(x api.Addr) uint64 {
	p.note()
	return p.read(x)
}

func (p *plain) note() {
	m := p.now
	m.places = slices.Clone(m.places)
	p.moments = append(p.moments, m)
}

// below a node, all that are counted among its slots, from low on, are found; high is behind the last of them.
func (p *plain) below(g, node, low, high int) {
	n := 1 << g
	if p.look(api.Addr{Block: p.now.segs[g], At: 5*n + node}) == 0 {
		return
	}
	if high-low == 1 {
		p.now.places = append(p.now.places, api.Place{Seg: p.now.segs[g], Slot: low})
		return
	}
	middle := (low + high) / 2
	p.below(g, 2*node, low, middle)
	p.below(g, 2*node+1, middle, high)
}

// plainCollect tells what is told behind no read, one, two, till the last one.
func plainCollect(read func(x api.Addr) uint64) []moment {
	p := &plain{read: read}
	for g := range 8 {
		h := p.look(api.Addr{At: 1 + g})
		if h == 0 {
			break
		}
		p.now.segs[g] = h
		p.below(g, 1, 1<<g-1, 2<<g-1)
	}
	p.note()
	return p.moments
}

// change is what somebody else does to an arena ahead of a read.
type change func(a *arena.Arena)

// momentsOf a collect in that arena, with what others do ahead of each read.
func momentsOf(a *arena.Arena, changes ...change) []moment {
	n := 0
	return plainCollect(func(x api.Addr) uint64 {
		if n < len(changes) {
			changes[n](a)
		}
		n++
		w, _ := a.Read(x)
		return w
	})
}

// tells holds all that a collect tells against what it has to.
func tells(t *testing.T, c *Collect, done bool, want moment) {
	t.Helper()
	if c.Done() != done || !slices.Equal(c.Places(), want.places) {
		t.Fatalf("done %t, %v; want %t, %v", c.Done(), c.Places(), done, want.places)
	}
	for g := -3; g < 11; g++ {
		var h uint64
		if g >= 0 && g < 8 {
			h = want.segs[g]
		}
		if c.Seg(g) != h {
			t.Fatalf("segment %d: %d, want %d", g, c.Seg(g), h)
		}
	}
}

// follow a collect to its end, and beyond it: each step is that of the plain one, in an arena that is its like.
func follow(t *testing.T, a *arena.Arena, changes ...change) (*Collect, int) {
	t.Helper()
	b := a.Clone()
	c := New(a)
	isSame(t, a, b)
	moments := momentsOf(b, changes...)
	last := len(moments) - 1
	for i := range last {
		tells(t, c, false, moments[i])
		if i < len(changes) {
			changes[i](a)
		}
		tells(t, c, false, moments[i])
		c.Step()
	}
	for range 3 {
		tells(t, c, true, moments[last])
		isSame(t, a, b)
		c.Step()
	}
	return c, last
}

func isSame(t *testing.T, a, b *arena.Arena) {
	t.Helper()
	if !arena.Same(a, b) || a.Tally() != b.Tally() || a.Faults() != b.Faults() || a.Peak() != b.Peak() {
		t.Fatalf("arenas differ: tallies %v and %v, faults %d and %d", a.Tally(), b.Tally(), a.Faults(), b.Faults())
	}
}

// newArena with so many segments: of slots that are somebody's, who asks and holds, but whom nobody has counted.
func newArena(t *testing.T, segments int) (*arena.Arena, []uint64) {
	t.Helper()
	a, err := arena.New(3000)
	if err != api.OK {
		t.Fatalf("New: %d", err)
	}
	a.Write(api.Addr{At: 0}, 99)
	var segs []uint64
	for g := range segments {
		// A block of nobody's between two segments, so that the one's handle doesn't follow from the other's.
		a.Lay(make([]uint64, 1+g)...)
		words := make([]uint64, 7<<g)
		for i := range 5<<g + 1 {
			words[i] = uint64(1000*g + i + 1)
		}
		h, err := a.Lay(words...)
		if err != api.OK {
			t.Fatalf("Lay: %d", err)
		}
		a.Write(api.Addr{At: 1 + g}, h)
		segs = append(segs, h)
	}
	return a, segs
}

// segmentOf a slot, by the document's words: its number, its first slot, and how many it has.
func segmentOf(slot int) (g, first, n int) {
	n = 1
	for slot >= first+n {
		g, first, n = g+1, first+n, 2*n
	}
	return g, first, n
}

// enter the slots: the counters of their paths are one more each.
func enter(a *arena.Arena, segs []uint64, slots ...int) {
	for _, slot := range slots {
		for _, x := range counters(segs, slot) {
			a.Add(x, 1)
		}
	}
}

// counters of a slot's path, its own first.
func counters(segs []uint64, slot int) []api.Addr {
	g, first, n := segmentOf(slot)
	var l []api.Addr
	for node := n + slot - first; node > 0; node /= 2 {
		l = append(l, api.Addr{Block: segs[g], At: 5*n + node})
	}
	return l
}

// placesOf slots.
func placesOf(segs []uint64, slots ...int) []api.Place {
	var l []api.Place
	for _, slot := range slots {
		g, _, _ := segmentOf(slot)
		l = append(l, api.Place{Seg: segs[g], Slot: slot})
	}
	return l
}

// toEnd goes to the end of a collect, and tells in how many steps.
func toEnd(t *testing.T, c *Collect) int {
	t.Helper()
	n := 0
	for ; !c.Done(); n++ {
		if n > 1000 {
			t.Fatal("it is never done")
		}
		c.Step()
	}
	return n
}
