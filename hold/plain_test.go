package hold

import (
	"slices"
	"testing"

	"roundelay/api"
	"roundelay/arena"
	"roundelay/pace"
)

// moment is what a machine tells behind so many of its accesses: one of another kind tells noughts where it has no such call.
type moment struct {
	root  uint64
	words []uint64
	out   int
}

// plain is a machine told as a row of accesses; none is left behind one that ends it.
type plain struct {
	arena *arena.Arena
	acts  []func()
	now   moment
}

func (p *plain) done() bool { return len(p.acts) == 0 }

func (p *plain) step() {
	if p.done() {
		return
	}
	act := p.acts[0]
	p.acts = p.acts[1:]
	act()
}

func (p *plain) end(out int) {
	p.now.out = out
	p.acts = nil
}

// endIf Won or Changed, by what the root is.
func (p *plain) endIf(root uint64) {
	if p.root() == root {
		p.end(1)
	} else {
		p.end(2)
	}
}

func (p *plain) root() uint64 {
	w, _ := p.arena.Read(api.Addr{})
	return w
}

func plainGrip(a *arena.Arena, own api.Place) *plain {
	p := &plain{arena: a}
	p.acts = []func(){
		func() { p.now.root = p.root() },
		func() { a.Write(holdA(own), p.now.root/1048576) },
		func() { p.endIf(p.now.root) },
	}
	return p
}

// plainFetch of so many words: few enough to be told one by one.
func plainFetch(a *arena.Arena, own api.Place, root, h uint64, n int) *plain {
	p := &plain{arena: a}
	p.acts = []func(){
		func() { a.Write(holdB(own), h) },
		func() {
			if p.root() != root {
				p.end(2)
			} else if n < 1 {
				p.end(1)
			}
		},
	}
	for at := range max(n, 0) {
		p.acts = append(p.acts, func() {
			w, _ := a.Read(api.Addr{Block: h, At: at})
			p.now.words = append(p.now.words, w)
			if at == n-1 {
				p.end(1)
			}
		})
	}
	return p
}

func plainClear(a *arena.Arena, own api.Place) *plain {
	return &plain{arena: a, acts: []func(){
		func() { a.Write(holdA(own), 0) },
		func() { a.Write(holdB(own), 0) },
	}}
}

// holdA is the word of a slot: the fourth of its five. That of a slot that there isn't is nowhere.
func holdA(own api.Place) api.Addr { return wordOf(own, 3) }

func holdB(own api.Place) api.Addr { return wordOf(own, 4) }

func wordOf(own api.Place, field int) api.Addr {
	if own.Slot < 0 || own.Slot > 254 {
		return api.Addr{Block: own.Seg, At: -1}
	}
	_, first, _ := segmentOf(own.Slot)
	return api.Addr{Block: own.Seg, At: 5*(own.Slot-first) + field}
}

// segmentOf a slot, by the document's words: its number, its first slot, and how many it has.
func segmentOf(slot int) (g, first, n int) {
	n = 1
	for slot >= first+n {
		g, first, n = g+1, first+n, 2*n
	}
	return g, first, n
}

// change is what somebody else does to an arena ahead of a step.
type change func(a *arena.Arena)

func nothing(*arena.Arena) {}

// setRoot makes another root.
func setRoot(r uint64) change {
	return func(a *arena.Arena) { a.Write(api.Addr{}, r) }
}

// momentOf a machine.
func momentOf(m pace.Machine) moment {
	switch x := m.(type) {
	case *Grip:
		return moment{root: x.Root(), out: x.Out()}
	case *Fetch:
		return moment{words: x.Words(), out: x.Out()}
	}
	return moment{}
}

// tells holds all that a machine tells against what it has to. One that has no Out tells none.
func tells(t *testing.T, m pace.Machine, done bool, want moment) {
	t.Helper()
	if _, ok := m.(*Clear); ok {
		want.out = 0
	}
	is := momentOf(m)
	if m.Done() != done || is.root != want.root || is.out != want.out || !slices.Equal(is.words, want.words) {
		t.Fatalf("%T: done %t, %v; want %t, %v", m, m.Done(), is, done, want)
	}
}

// follow a machine to its end, and beyond it: each step is that of the plain one, in an arena that is its like, with what others do ahead of each.
func follow(t *testing.T, m pace.Machine, a *arena.Arena, p *plain, changes ...change) int {
	t.Helper()
	n := 0
	for ; !p.done(); n++ {
		tells(t, m, false, p.now)
		isSame(t, a, p.arena)
		if n < len(changes) {
			changes[n](a)
			changes[n](p.arena)
			tells(t, m, false, p.now)
		}
		m.Step()
		p.step()
	}
	for range 3 {
		tells(t, m, true, p.now)
		isSame(t, a, p.arena)
		m.Step()
	}
	return n
}

func followGrip(t *testing.T, a *arena.Arena, own api.Place, changes ...change) int {
	t.Helper()
	b := a.Clone()
	return follow(t, NewGrip(a, own), a, plainGrip(b, own), changes...)
}

func followFetch(t *testing.T, a *arena.Arena, own api.Place, root, h uint64, n int, changes ...change) int {
	t.Helper()
	b := a.Clone()
	return follow(t, NewFetch(a, own, root, h, n), a, plainFetch(b, own, root, h, n), changes...)
}

func followClear(t *testing.T, a *arena.Arena, own api.Place, changes ...change) int {
	t.Helper()
	b := a.Clone()
	return follow(t, NewClear(a, own), a, plainClear(b, own), changes...)
}

func isSame(t *testing.T, a, b *arena.Arena) {
	t.Helper()
	if !arena.Same(a, b) || a.Tally() != b.Tally() || a.Faults() != b.Faults() || a.Peak() != b.Peak() {
		t.Fatalf("arenas differ: tallies %v and %v, faults %d and %d", a.Tally(), b.Tally(), a.Faults(), b.Faults())
	}
}

// toEnd goes to the end of a machine, and tells in how many steps.
func toEnd(t *testing.T, m pace.Machine) int {
	t.Helper()
	n := 0
	for ; !m.Done(); n++ {
		if n > 10000 {
			t.Fatal("it is never done")
		}
		m.Step()
	}
	return n
}

// newArena with so many segments, and a root: no two of its words are alike.
func newArena(t *testing.T, segments int, root uint64) (*arena.Arena, []uint64) {
	t.Helper()
	a, err := arena.New(3000)
	if err != api.OK {
		t.Fatalf("New: %d", err)
	}
	var segs []uint64
	for g := range segments {
		words := make([]uint64, 7<<g)
		for i := range words {
			words[i] = uint64(10000*(g+1) + i)
		}
		h, err := a.Lay(words...)
		if err != api.OK {
			t.Fatalf("Lay: %d", err)
		}
		a.Write(api.Addr{At: 1 + g}, h)
		segs = append(segs, h)
	}
	a.Write(api.Addr{}, root)
	return a, segs
}

// placeIn such an arena.
func placeIn(segs []uint64, slot int) api.Place {
	g, _, _ := segmentOf(slot)
	return api.Place{Seg: segs[g], Slot: slot}
}
