package attic

import (
	"iter"
	"reflect"
	"slices"
	"sort"
	"testing"

	"roundelay/api"
	"roundelay/arena"
	"roundelay/pace"
)

// plain is an attic told as one row: each handle with its slot, in the order in which they were put.
type plain struct {
	row []kept
	log []api.Batch
}

type kept struct {
	slot int
	h    uint64
}

func (p *plain) put(slot int, l ...uint64) {
	for _, h := range l {
		if slot >= 0 && slot <= 254 {
			p.row = append(p.row, kept{slot, h})
		}
	}
}

func (p *plain) take(slot int, h uint64) bool {
	for i, k := range p.row {
		if k == (kept{slot, h}) {
			p.row = append(slices.Clone(p.row[:i]), p.row[i+1:]...)
			return true
		}
	}
	return false
}

func (p *plain) list(slot int) []uint64 {
	var l []uint64
	for _, k := range p.row {
		if k.slot == slot {
			l = append(l, k.h)
		}
	}
	return l
}

func (p *plain) all() []uint64 {
	row := slices.Clone(p.row)
	sort.SliceStable(row, func(i, j int) bool { return row[i].slot < row[j].slot })
	var l []uint64
	for _, k := range row {
		l = append(l, k.h)
	}
	return l
}

func (p *plain) note(b api.Batch) {
	b.L = slices.Clone(b.L)
	p.log = append(p.log, b)
}

func (p *plain) clone() *plain {
	return &plain{slices.Clone(p.row), slices.Clone(p.log)}
}

// isLike holds all that an attic tells against what it has to.
func isLike(t *testing.T, x *Attic, p *plain) {
	t.Helper()
	if l := x.All(); x.Len() != len(p.row) || !slices.Equal(l, p.all()) {
		t.Fatalf("%d: %v, want %d: %v", x.Len(), l, len(p.row), p.all())
	}
	if l := x.Log(); x.Noted() != len(p.log) || !sameLogs(l, p.log) {
		t.Fatalf("%d: %v, want %d: %v", x.Noted(), l, len(p.log), p.log)
	}
}

// listsAreLike holds each list against what it has to be.
func listsAreLike(t *testing.T, x *Attic, p *plain) {
	t.Helper()
	for slot := -2; slot < 258; slot++ {
		if l := x.List(slot); !slices.Equal(l, p.list(slot)) {
			t.Fatalf("slot %d: %v, want %v", slot, l, p.list(slot))
		}
	}
}

// sameLogs: nil and empty are one.
func sameLogs(a, b []api.Batch) bool {
	return slices.EqualFunc(a, b, func(x, y api.Batch) bool {
		return x.Head == y.Head && slices.Equal(x.L, y.L)
	})
}

// room is an arena and an attic.
type room struct {
	arena *arena.Arena
	attic *Attic
}

func (r room) clone() room { return room{r.arena.Clone(), r.attic.Clone()} }

// plainSweep is a sweep told from its beginning to its end: it pauses ahead of each access.
func plainSweep(r room, slot, most int) iter.Seq[string] {
	return func(pause func(string) bool) {
		list := r.attic.List(slot)
		if len(list) == 0 {
			return
		}
		read := func(x api.Addr) uint64 {
			pause("read")
			w, _ := r.arena.Read(x)
			return w
		}
		var found []api.Place
		for g := range 8 {
			seg := read(api.Addr{At: 1 + g})
			if seg == 0 {
				break
			}
			below(read, seg, 1<<g, 1, 1<<g-1, 2<<g-1, &found)
		}
		held := map[uint64]bool{}
		for _, own := range found {
			held[read(holdA(own))] = true
			held[read(holdB(own))] = true
		}
		freed := 0
		for _, h := range list {
			if held[h] || freed >= most {
				continue
			}
			freed++
			pause("free")
			r.arena.Free(h)
			r.attic.Take(slot, h)
		}
	}
}

// below a node of a segment of n slots, those that are counted among its slots, from low on, are found; high is behind the last of them.
func below(read func(api.Addr) uint64, seg uint64, n, node, low, high int, found *[]api.Place) {
	if read(api.Addr{Block: seg, At: 5*n + node}) == 0 {
		return
	}
	if high-low == 1 {
		*found = append(*found, api.Place{Seg: seg, Slot: low})
		return
	}
	middle := (low + high) / 2
	below(read, seg, n, 2*node, low, middle, found)
	below(read, seg, n, 2*node+1, middle, high, found)
}

// holdA is the word of a slot: the fourth of its five.
func holdA(own api.Place) api.Addr { return wordOf(own, 3) }

func holdB(own api.Place) api.Addr { return wordOf(own, 4) }

func wordOf(own api.Place, field int) api.Addr {
	_, first, _ := segmentOf(own.Slot)
	return api.Addr{Block: own.Seg, At: 5*(own.Slot-first) + field}
}

// segmentOf a slot, by the document's words: its number, its first slot, and how many it has.
func segmentOf(slot int) (g, first, n int) {
	n = 1
	for slot >= first+n {
		g, first, n = g+1, first+n, 2*n
	}
	return g, first, n
}

// counters of a slot's path, from its node up.
func counters(own api.Place) []api.Addr {
	_, first, n := segmentOf(own.Slot)
	var l []api.Addr
	for node := n + own.Slot - first; node > 0; node /= 2 {
		l = append(l, api.Addr{Block: own.Seg, At: 5*n + node})
	}
	return l
}

// countBy 1 a slot in, or by -1 out, at one time.
func countBy(a *arena.Arena, own api.Place, by int) {
	for _, x := range counters(own) {
		a.Add(x, uint64(by))
	}
}

// change is what somebody else does ahead of a step.
type change func(r room)

func nothing(room) {}

// follow a sweep to its end, and beyond it: each step is that of the plain one, in a room that is its like, with what others do ahead of each. It tells how many steps there were.
func follow(t *testing.T, r room, slot, most int, changes ...change) int {
	t.Helper()
	like := r.clone()
	next, stop := iter.Pull(plainSweep(like, slot, most))
	defer stop()
	s := NewSweep(r.arena, r.attic, slot, most)
	n := 0
	for _, ok := next(); ok; _, ok = next() {
		isSame(t, r, like)
		if s.Done() {
			t.Fatalf("done behind %d steps", n)
		}
		if n < len(changes) {
			changes[n](r)
			changes[n](like)
		}
		s.Step()
		n++
	}
	for range 3 {
		isSame(t, r, like)
		if !s.Done() {
			t.Fatalf("not done behind %d steps", n)
		}
		s.Step()
	}
	return n
}

func isSame(t *testing.T, x, y room) {
	t.Helper()
	a, b := x.arena, y.arena
	if !arena.Same(a, b) || a.Tally() != b.Tally() || a.Faults() != b.Faults() || a.Peak() != b.Peak() {
		t.Fatalf("arenas differ: tallies %v and %v, faults %d and %d", a.Tally(), b.Tally(), a.Faults(), b.Faults())
	}
	if !reflect.DeepEqual(x.attic.All(), y.attic.All()) || x.attic.Noted() != y.attic.Noted() {
		t.Fatalf("attics differ: %v and %v", x.attic.All(), y.attic.All())
	}
}

// toEnd goes to the end of a machine, and tells in how many steps.
func toEnd(t *testing.T, m pace.Machine) int {
	t.Helper()
	n := 0
	for ; !m.Done(); n++ {
		if n > 10000 {
			t.Fatal("it is never done")
		}
		m.Step()
	}
	return n
}

// newRoom with so many segments, in which nobody is counted or holds anything; all other words of slots are like nothing else.
func newRoom(t *testing.T, segments int) (room, []uint64) {
	t.Helper()
	a, err := arena.New(5000)
	if err != api.OK {
		t.Fatalf("New: %d", err)
	}
	var segs []uint64
	for g := range segments {
		n := 1 << g
		words := make([]uint64, 7*n)
		for i := range 5 * n {
			if i%5 < 3 {
				words[i] = uint64(10000*(g+1) + i)
			}
		}
		h, err := a.Lay(words...)
		if err != api.OK {
			t.Fatalf("Lay: %d", err)
		}
		a.Write(api.Addr{At: 1 + g}, h)
		segs = append(segs, h)
	}
	return room{a, New()}, segs
}

// placeIn such a room.
func placeIn(segs []uint64, slot int) api.Place {
	g, _, _ := segmentOf(slot)
	return api.Place{Seg: segs[g], Slot: slot}
}

// lay some blocks of one word each.
func (r room) lay(t *testing.T, n int) []uint64 {
	t.Helper()
	var l []uint64
	for i := range n {
		h, err := r.arena.Lay(uint64(i))
		if err != api.OK {
			t.Fatalf("Lay: %d", err)
		}
		l = append(l, h)
	}
	return l
}

// hold two blocks by a slot.
func (r room) hold(own api.Place, x, y uint64) {
	r.arena.Write(holdA(own), x)
	r.arena.Write(holdB(own), y)
}

// lives: is the block there?
func (r room) lives(h uint64) bool { return r.arena.Size(h) > 0 }
