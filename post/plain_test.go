package post

import (
	"iter"
	"reflect"
	"slices"
	"testing"

	"roundelay/api"
	"roundelay/arena"
	"roundelay/attic"
	"roundelay/pace"
)

// room is an arena and an attic.
type room struct {
	arena *arena.Arena
	attic *attic.Attic
}

func (r room) clone() room { return room{r.arena.Clone(), r.attic.Clone()} }

// plainPost is a post told from its beginning to its end, by the document's numbers: ahead of each access it pauses, and tells the number.
func plainPost(r room, own api.Place, top uint64, posted *int) iter.Seq[int] {
	return func(pause func(int) bool) {
		read := func(number int, x api.Addr) uint64 {
			pause(number)
			w, _ := r.arena.Read(x)
			return w
		}
		for {
			c := read(1, api.Addr{Block: top})
			if c == 0 {
				return
			}
			pause(2)
			r.arena.Write(wordIn(own, 4), c)
			if read(3, api.Addr{Block: top}) != c {
				continue
			}
			slot := read(4, api.Addr{Block: c})
			note := read(4, api.Addr{Block: c, At: 1})
			next := read(4, api.Addr{Block: c, At: 2})
			g, _, _ := segmentOf(int(slot))
			seg := read(5, api.Addr{At: 1 + g})
			told := wordIn(api.Place{Seg: seg, Slot: int(slot)}, 2)
			was := read(6, told)
			if was>>32 < note>>32 {
				pause(6)
				r.arena.Swap(told, was, note)
			}
			pause(7)
			if did, _ := r.arena.Swap(api.Addr{Block: top}, c, next); did {
				*posted++
				r.attic.Put(own.Slot, c)
			}
		}
	}
}

// wordIn a slot: one of its five.
func wordIn(own api.Place, field int) api.Addr {
	_, first, _ := segmentOf(own.Slot)
	return api.Addr{Block: own.Seg, At: 5*(own.Slot-first) + field}
}

// segmentOf a slot, by the document's words: its number, its first slot, and how many it has.
func segmentOf(slot int) (g, first, n int) {
	n = 1
	for slot >= first+n {
		g, first, n = g+1, first+n, 2*n
	}
	return g, first, n
}

// change is what somebody else does ahead of a step.
type change func(r room)

// meanwhile tells what somebody else does ahead of the step n (from 0 on), whose access has that number in the document; nil: nothing.
type meanwhile func(n, number int) change

// alone: nobody else does anything.
func alone(int, int) change { return nil }

// ahead of the first access of that number somebody else does something, once.
func ahead(number int, do change) meanwhile {
	did := false
	return func(_, x int) change {
		if did || x != number {
			return nil
		}
		did = true
		return do
	}
}

// follow a post to its end, and beyond it: each step is that of the plain one, in a room that is its like, with what others do ahead of each. It tells how many steps there were, and what was posted.
func follow(t *testing.T, r room, own api.Place, top uint64, others meanwhile) (n, posted int) {
	t.Helper()
	like, want := r.clone(), 0
	next, stop := iter.Pull(plainPost(like, own, top, &want))
	defer stop()
	p := New(r.arena, r.attic, own, top)
	for number, ok := next(); ok; number, ok = next() {
		isSame(t, r, like)
		if p.Done() || p.Posted() != want {
			t.Fatalf("behind %d steps: done %t, %d posted, want %d", n, p.Done(), p.Posted(), want)
		}
		if do := others(n, number); do != nil {
			do(r)
			do(like)
		}
		p.Step()
		n++
	}
	for range 3 {
		isSame(t, r, like)
		if !p.Done() || p.Posted() != want {
			t.Fatalf("behind all %d steps: done %t, %d posted, want %d", n, p.Done(), p.Posted(), want)
		}
		p.Step()
	}
	return n, want
}

func isSame(t *testing.T, x, y room) {
	t.Helper()
	a, b := x.arena, y.arena
	if !arena.Same(a, b) || a.Tally() != b.Tally() || a.Faults() != b.Faults() || a.Peak() != b.Peak() {
		t.Fatalf("arenas differ: tallies %v and %v, faults %d and %d", a.Tally(), b.Tally(), a.Faults(), b.Faults())
	}
	if !reflect.DeepEqual(x.attic.All(), y.attic.All()) || x.attic.Noted() != y.attic.Noted() {
		t.Fatalf("attics differ: %v and %v", x.attic.All(), y.attic.All())
	}
}

// finish a machine: in how many steps, and is it done?
func finish(m pace.Machine) (int, bool) {
	n := 0
	for ; n < 10000 && !m.Done(); n++ {
		m.Step()
	}
	return n, m.Done()
}

// toEnd goes to the end of a machine, and tells in how many steps.
func toEnd(t *testing.T, m pace.Machine) int {
	t.Helper()
	n, done := finish(m)
	if !done {
		t.Fatal("it is never done")
	}
	return n
}

// newRoom with so many segments, whose slots' words are like nothing else, but for Told: 0. The root leads nowhere, and is like nothing else, too.
func newRoom(t *testing.T, segments int) (room, []uint64) {
	t.Helper()
	a, err := arena.New(5000)
	if err != api.OK {
		t.Fatalf("New: %d", err)
	}
	a.Write(api.Addr{}, 4711)
	r := room{a, attic.New()}
	var segs []uint64
	for g := range segments {
		words := make([]uint64, 7<<g)
		for i := range words {
			if i >= 5<<g || i%5 != 2 {
				words[i] = uint64(10000*(g+1) + i)
			}
		}
		segs = append(segs, r.lay(t, words...))
		a.Write(api.Addr{At: 1 + g}, segs[g])
	}
	return r, segs
}

func (r room) lay(t *testing.T, words ...uint64) uint64 {
	t.Helper()
	h, err := r.arena.Lay(words...)
	if err != api.OK {
		t.Fatalf("Lay: %d", err)
	}
	return h
}

// placeIn such a room.
func placeIn(segs []uint64, slot int) api.Place {
	g, _, _ := segmentOf(slot)
	return api.Place{Seg: segs[g], Slot: slot}
}

// say is what an entry tells.
type say struct {
	slot      int
	seq, body uint64
}

func (s say) note() uint64 { return s.seq<<32 | s.body }

// entries that lead one to the other, and a head that leads to the first one.
func (r room) entries(t *testing.T, l ...say) (top uint64, entries []uint64) {
	t.Helper()
	next := uint64(0)
	for _, s := range slices.Backward(l) {
		next = r.lay(t, uint64(s.slot), s.note(), next)
		entries = append(entries, next)
	}
	slices.Reverse(entries)
	return r.lay(t, next, 11, 12, 13, 14, 15, 16, 17), entries
}

// word of a place.
func (r room) word(own api.Place, field int) uint64 {
	w, _ := r.arena.Read(wordIn(own, field))
	return w
}

func (r room) told(own api.Place) uint64 { return r.word(own, api.Told) }

// tell a slot.
func (r room) tell(own api.Place, seq, body uint64) {
	r.arena.Write(wordIn(own, api.Told), say{seq: seq, body: body}.note())
}

// cursor of a head.
func (r room) cursor(top uint64) uint64 {
	w, _ := r.arena.Read(api.Addr{Block: top})
	return w
}
