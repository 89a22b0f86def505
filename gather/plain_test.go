package gather

import (
	"iter"
	"slices"
	"testing"

	"roundelay/api"
	"roundelay/arena"
	"roundelay/pace"
)

// plain is a gather told from its beginning to its end, by the document's numbers: ahead of each read it pauses, and tells the address.
type plain struct {
	arena *arena.Arena
	pause func(api.Addr) bool
	asked []api.Asked
}

func (p *plain) read(x api.Addr) uint64 {
	p.pause(x)
	w, _ := p.arena.Read(x)
	return w
}

// run it: who is there is found first, all over the segments, and then each of them is looked at.
func (p *plain) run(pause func(api.Addr) bool) {
	p.pause = pause
	var places []api.Place
	for g := range 8 {
		seg := p.read(api.Addr{At: 1 + g})
		if seg == 0 {
			break
		}
		for _, slot := range p.below(seg, g, 1, 1<<g-1, 2<<g-1) {
			places = append(places, api.Place{Seg: seg, Slot: slot})
		}
	}
	for _, own := range places {
		ask := p.read(wordIn(own, 1))
		told := p.read(wordIn(own, 2))
		if o, ok := operation(ask % (1 << 32)); ok && ask>>32 > told>>32 {
			p.asked = append(p.asked, api.Asked{Place: own, Seq: ask >> 32, Op: o})
		}
	}
}

// below a node, among its slots from low on, all that are counted; high is behind the last of them.
func (p *plain) below(seg uint64, g, node, low, high int) []int {
	if p.read(api.Addr{Block: seg, At: 5<<g + node}) == 0 {
		return nil
	}
	if high-low == 1 {
		return []int{low}
	}
	middle := (low + high) / 2
	left := p.below(seg, g, 2*node, low, middle)
	return append(left, p.below(seg, g, 2*node+1, middle, high)...)
}

// uses of each code: which of an operation's parts. What isn't here is no real operation's.
var uses = map[int]string{
	1: "A", 2: "", 3: "",
	4: "K", 5: "KA", 6: "K", 7: "KAB", 8: "", 9: "K",
	10: "KA", 11: "K", 12: "K", 13: "K", 14: "K",
}

// operation of a number, if it is a real one's.
func operation(n uint64) (api.Op, bool) {
	o := api.Op{Code: int(n >> 28), Key: int(n >> 20 % 256), A: int(n >> 10 % 1024), B: int(n % 1024)}
	used, ok := uses[o.Code]
	for part, w := range map[rune]int{'K': o.Key, 'A': o.A, 'B': o.B} {
		ok = ok && (w == 0 || slices.Contains([]rune(used), part))
	}
	if !ok {
		return api.Op{}, false
	}
	return o, true
}

// number of an operation.
func number(o api.Op) uint64 {
	return uint64(o.Code)<<28 + uint64(o.Key)<<20 + uint64(o.A)<<10 + uint64(o.B)
}

// wordIn a slot: one of its five.
func wordIn(own api.Place, field int) api.Addr {
	_, first, _ := segmentOf(own.Slot)
	return api.Addr{Block: own.Seg, At: 5*(own.Slot-first) + field}
}

// segmentOf a slot, by the document's words: its number, its first slot, and how many it has.
func segmentOf(slot int) (g, first, n int) {
	n = 1
	for slot >= first+n {
		g, first, n = g+1, first+n, 2*n
	}
	return g, first, n
}

// counters of a slot's path, its own first.
func counters(own api.Place) []api.Addr {
	_, first, n := segmentOf(own.Slot)
	var l []api.Addr
	for node := n + own.Slot - first; node > 0; node /= 2 {
		l = append(l, api.Addr{Block: own.Seg, At: 5*n + node})
	}
	return l
}

// change is what somebody else does to an arena ahead of a step.
type change func(a *arena.Arena)

// meanwhile tells what somebody else does ahead of the step n (from 0 on), which reads that word; nil: nothing.
type meanwhile func(n int, x api.Addr) change

// alone: nobody else does anything.
func alone(int, api.Addr) change { return nil }

// ahead of the read of that word somebody else does something.
func ahead(x api.Addr, do change) meanwhile {
	return func(_ int, y api.Addr) change {
		if x != y {
			return nil
		}
		return do
	}
}

// follow a gather to its end, and beyond it: each step is that of the plain one, in an arena that is its like, with what others do ahead of each. It tells how many steps there were, and what was asked for.
func follow(t *testing.T, a *arena.Arena, others meanwhile) (n int, asked []api.Asked) {
	t.Helper()
	b := a.Clone()
	like := &plain{arena: b}
	next, stop := iter.Pull(like.run)
	defer stop()
	g := New(a)
	for x, ok := next(); ok; x, ok = next() {
		isSame(t, a, b)
		tells(t, g, false, like.asked)
		if do := others(n, x); do != nil {
			do(a)
			do(b)
		}
		tells(t, g, false, like.asked)
		g.Step()
		n++
	}
	for range 3 {
		isSame(t, a, b)
		tells(t, g, true, like.asked)
		g.Step()
	}
	return n, like.asked
}

// tells holds all that a gather tells against what it has to.
func tells(t *testing.T, g *Gather, done bool, asked []api.Asked) {
	t.Helper()
	if g.Done() != done || !slices.Equal(g.Asked(), asked) {
		t.Fatalf("done %t, %v; want %t, %v", g.Done(), g.Asked(), done, asked)
	}
}

func isSame(t *testing.T, a, b *arena.Arena) {
	t.Helper()
	if !arena.Same(a, b) || a.Tally() != b.Tally() || a.Faults() != b.Faults() || a.Peak() != b.Peak() {
		t.Fatalf("arenas differ: tallies %v and %v, faults %d and %d", a.Tally(), b.Tally(), a.Faults(), b.Faults())
	}
}

// toEnd goes to the end of a machine, and tells in how many steps.
func toEnd(t *testing.T, m pace.Machine) int {
	t.Helper()
	n := 0
	for ; !m.Done(); n++ {
		if n > 2000 {
			t.Fatal("it is never done")
		}
		m.Step()
	}
	return n
}

// newArena with so many segments: of slots that are somebody's, and hold something, but don't ask, and aren't counted.
func newArena(t *testing.T, segments int) (*arena.Arena, []uint64) {
	t.Helper()
	a, err := arena.New(4000)
	if err != api.OK {
		t.Fatalf("New: %d", err)
	}
	a.Write(api.Addr{}, 4711)
	var segs []uint64
	for g := range segments {
		// A block of nobody's between two segments, so that the one's handle doesn't follow from the other's.
		lay(t, a, make([]uint64, 1+g)...)
		words := make([]uint64, 7<<g)
		for i := range 5 << g {
			if field := i % 5; field != api.Ask && field != api.Told {
				// As an Ask it would ask for something.
				words[i] = note(1<<31, number(api.Op{Code: api.Enqueue, A: i}))
			}
		}
		words[5<<g] = 1
		segs = append(segs, lay(t, a, words...))
		a.Write(api.Addr{At: 1 + g}, segs[g])
	}
	return a, segs
}

func lay(t *testing.T, a *arena.Arena, words ...uint64) uint64 {
	t.Helper()
	h, err := a.Lay(words...)
	if err != api.OK {
		t.Fatalf("Lay: %d", err)
	}
	return h
}

// placeIn such an arena.
func placeIn(segs []uint64, slot int) api.Place {
	g, _, _ := segmentOf(slot)
	return api.Place{Seg: segs[g], Slot: slot}
}

// enter a place: the counters of its path are one more each.
func enter(a *arena.Arena, l ...api.Place) {
	for _, own := range l {
		for _, x := range counters(own) {
			a.Add(x, 1)
		}
	}
}

func note(seq, body uint64) uint64 { return seq<<32 + body }

// ask at a place.
func ask(a *arena.Arena, own api.Place, seq, body uint64) {
	a.Write(wordIn(own, 1), note(seq, body))
}

// tell a place.
func tell(a *arena.Arena, own api.Place, seq, body uint64) {
	a.Write(wordIn(own, 2), note(seq, body))
}

// word of a place.
func word(a *arena.Arena, own api.Place, field int) uint64 {
	w, _ := a.Read(wordIn(own, field))
	return w
}
