package hold

import (
	"math/rand"
	"slices"
	"testing"

	"roundelay/api"
	"roundelay/arena"
	"roundelay/fields"
	"roundelay/pace"
)

// crowd of those that hold what they read, change the root, and free what was unlinked and nobody holds. A head here has the handles of two nodes; both may be one.
type crowd struct {
	t       *testing.T
	arena   *arena.Arena
	slots   []api.Place
	members []*member
	// laid is what each block that ever was laid has: none is written again.
	laid map[uint64][]uint64
	// times are what the root and the slots' holds were, time by time.
	times []times
	// won and changed are how many grips and fetches have ended so; freed is how many blocks were freed.
	won, changed, freed int
}

type times struct {
	root uint64
	// holds of the slots, HoldA and HoldB of each.
	holds [][2]uint64
}

func newCrowd(t *testing.T, members int) *crowd {
	t.Helper()
	a, segs := newArena(t, 3, 0)
	w := &crowd{t: t, arena: a, laid: map[uint64][]uint64{}}
	for slot := range members {
		own := placeIn(segs, slot)
		w.slots = append(w.slots, own)
		toEnd(t, NewClear(a, own))
		w.members = append(w.members, &member{crowd: w, own: own, slot: slot})
	}
	x, y := w.lay(1, 2, 3, 4), w.lay(5, 6, 7, 8)
	r, _ := fields.Root(w.lay(x, y), 0)
	a.Write(api.Addr{}, r)
	w.look()
	return w
}

// lay a block, in one access.
func (w *crowd) lay(words ...uint64) uint64 {
	w.t.Helper()
	h, err := w.arena.Lay(words...)
	if err != api.OK {
		w.t.Fatalf("Lay: %d", err)
	}
	w.laid[h] = words
	return h
}

// look what there is now.
func (w *crowd) look() {
	now := times{}
	now.root, _ = w.arena.Read(api.Addr{})
	for _, own := range w.slots {
		x, _ := w.arena.Read(holdA(own))
		y, _ := w.arena.Read(holdB(own))
		now.holds = append(now.holds, [2]uint64{x, y})
	}
	w.times = append(w.times, now)
}

// pick a member: its next step, behind which all is looked at, and nobody may have come to a block that was freed.
func (w *crowd) pick(m *member) {
	w.t.Helper()
	m.gear.Step()
	w.look()
	if w.arena.Faults() != 0 {
		w.t.Fatalf("slot %d comes to a block that is gone", m.slot)
	}
}

// finish what a member does.
func (w *crowd) finish(m *member) {
	w.t.Helper()
	for n := 0; !m.gear.Done(); n++ {
		if n > 1000 {
			w.t.Fatalf("slot %d is never done", m.slot)
		}
		w.pick(m)
	}
}

// heldUnder: did the slot hold the block, from a time since then on to the end, at which, or behind which, the root was that one?
func (w *crowd) heldUnder(since, slot, field int, h, root uint64) bool {
	seen := false
	for i := len(w.times) - 1; i >= since && w.times[i].holds[slot][field] == h; i-- {
		seen = seen || w.times[i].root == root
	}
	return seen
}

// member of a crowd.
type member struct {
	crowd *crowd
	gear  pace.Gear
	own   api.Place
	slot  int
	// unlinked by it, and not freed yet.
	unlinked []uint64
	// then is what it does when it has read all, under that root.
	then func(root uint64, head []uint64)
}

// read a whole version: the head, and both its nodes. When it has changed meanwhile, it begins anew.
func (m *member) read() {
	since := len(m.crowd.times)
	g := NewGrip(m.crowd.arena, m.own)
	m.gear.Run(g, func() {
		if m.hasChanged(g.Out()) {
			m.read()
			return
		}
		h := fields.Top(g.Root())
		m.isHeld(since, 0, h, g.Root())
		words := pace.NewReads(m.crowd.arena, api.Addr{Block: h}, api.Addr{Block: h, At: 1})
		m.gear.Run(words, func() {
			m.isLaid(h, words.Words())
			m.fetch(g.Root(), words.Words(), 0)
		})
	})
}

// fetch the nodes from this one on.
func (m *member) fetch(root uint64, head []uint64, at int) {
	if at == len(head) {
		m.then(root, head)
		return
	}
	since := len(m.crowd.times)
	f := NewFetch(m.crowd.arena, m.own, root, head[at], 4)
	m.gear.Run(f, func() {
		if m.hasChanged(f.Out()) {
			m.read()
			return
		}
		m.isHeld(since, 1, head[at], root)
		m.isLaid(head[at], f.Words())
		m.fetch(root, head, at+1)
	})
}

func (m *member) hasChanged(out int) bool {
	if out == api.Won {
		m.crowd.won++
		return false
	}
	m.crowd.changed++
	return true
}

// isHeld since then: what its last step did is looked at, too.
func (m *member) isHeld(since, field int, h, root uint64) {
	m.crowd.t.Helper()
	m.crowd.look()
	if !m.crowd.heldUnder(since, m.slot, field, h, root) {
		m.crowd.t.Errorf("slot %d: Won, but %d wasn't held under the root %d", m.slot, h, root)
	}
}

// isLaid: what was read is what the block was laid with.
func (m *member) isLaid(h uint64, words []uint64) {
	m.crowd.t.Helper()
	if want := m.crowd.laid[h]; want == nil || !slices.Equal(words, want) {
		m.crowd.t.Errorf("slot %d: %v of the block %d, want %v", m.slot, words, h, want)
	}
}

// change the root to a version with another node in that place; what it loses is unlinked, or, if it comes too late, what it laid is freed.
func (m *member) change(root uint64, head []uint64, at int, then func()) {
	a := m.crowd.arena
	m.gear.To(func() {
		node := m.crowd.lay(root, uint64(at), 9, 9)
		m.gear.To(func() {
			next := slices.Clone(head)
			next[at] = node
			h := m.crowd.lay(next...)
			m.gear.To(func() {
				fresh, _ := fields.Root(h, 0)
				if did, _ := a.Swap(api.Addr{}, root, fresh); !did {
					m.gear.Run(pace.NewFrees(a, node, h), then)
					return
				}
				m.unlinked = append(m.unlinked, fields.Top(root), head[at])
				m.sweep(then)
			})
		})
	})
}

// sweep: what was unlinked is freed, but for what any slot holds.
func (m *member) sweep(then func()) {
	var l []api.Addr
	for _, own := range m.crowd.slots {
		l = append(l, holdA(own), holdB(own))
	}
	r := pace.NewReads(m.crowd.arena, l...)
	m.gear.Run(r, func() {
		var free, keep []uint64
		for _, h := range m.unlinked {
			if slices.Contains(r.Words(), h) {
				keep = append(keep, h)
			} else {
				free = append(free, h)
			}
		}
		m.unlinked = keep
		m.crowd.freed += len(free)
		m.gear.Run(pace.NewFrees(m.crowd.arena, free...), then)
	})
}

// schedules are all rows in which each is picked just so many times.
func schedules(left, row []int, do func(row []int)) {
	ended := true
	for i := range left {
		if left[i] == 0 {
			continue
		}
		ended = false
		left[i]--
		schedules(left, append(row, i), do)
		left[i]++
	}
	if ended {
		do(row)
	}
}

// every schedule of one who reads, again and again, and of one who only changes the root, and frees what nobody holds.
func every(t *testing.T, reads, changes int) (n, won, changed, freed int) {
	t.Helper()
	schedules([]int{reads, changes}, nil, func(row []int) {
		n++
		w := newCrowd(t, 1)
		reader := w.members[0]
		reader.then = func(uint64, []uint64) { reader.read() }
		reader.read()
		changer := &member{crowd: w, own: reader.own}
		var again func()
		again = func() {
			root, _ := w.arena.Read(api.Addr{})
			changer.change(root, w.laid[fields.Top(root)], 0, again)
		}
		again()
		for _, i := range row {
			w.pick([]*member{reader, changer}[i])
		}
		won, changed, freed = won+w.won, changed+w.changed, freed+w.freed
	})
	return n, won, changed, freed
}

// A reading has 17 steps; a change 5, and one for each block that is freed.
func TestEveryScheduleP14_2(t *testing.T) {
	n, won, changed, freed := every(t, 11, 7)
	if n != 31824 {
		t.Fatalf("%d schedules", n)
	}
	for _, x := range []int{won, changed, freed} {
		if x < 10000 {
			t.Fatalf("%d Won, %d Changed, %d freed", won, changed, freed)
		}
	}
	every(t, 17, 4)
	every(t, 5, 13)
}

// Whoever is picked, and whoever stops for ever while it holds something: nobody comes to what is gone. The seed is fixed, so that each run sees the same.
func TestDrawnSchedulesP14_2(t *testing.T) {
	r := rand.New(rand.NewSource(2))
	for members := 1; members <= 7; members++ {
		won, changed, freed := 0, 0, 0
		for range 10 {
			w := newCrowd(t, members)
			for _, m := range w.members {
				goOn(m, r)
			}
			stopped := 0
			for range 2000 {
				if stopped < members-1 && r.Intn(1000) == 0 {
					stopped++
				}
				// Some are picked often in a row, so that much becomes of them while the others stand still.
				m := w.members[stopped+r.Intn(members-stopped)]
				for range 1 + r.Intn(4)*r.Intn(20) {
					w.pick(m)
				}
			}
			won, changed, freed = won+w.won, changed+w.changed, freed+w.freed
		}
		if won < 1000 || freed < 1000 || members > 1 && changed < 500 {
			t.Fatalf("%d members: %d Won, %d Changed, %d freed", members, won, changed, freed)
		}
	}
}

// goOn for ever: what was read is changed, or let go of.
func goOn(m *member, r *rand.Rand) {
	m.then = func(root uint64, head []uint64) {
		if r.Intn(2) == 0 {
			m.change(root, head, r.Intn(2), m.read)
			return
		}
		m.gear.Run(NewClear(m.crowd.arena, m.own), m.read)
	}
	m.read()
}

// What is held isn't freed, and what was let go of is: so many blocks are left, when one has stopped while it holds a version's head and a node.
func TestLetGoP14_2(t *testing.T) {
	for _, clears := range []bool{false, true} {
		w := newCrowd(t, 2)
		blocks := w.arena.Len()
		holder, changer := w.members[0], w.members[1]
		holder.then = func(uint64, []uint64) {
			if clears {
				holder.gear.Run(NewClear(w.arena, holder.own), holder.gear.End)
			}
		}
		holder.read()
		w.finish(holder)
		rounds := 0
		changer.then = func(root uint64, head []uint64) {
			rounds++
			if rounds <= 10 {
				changer.change(root, head, rounds%2, changer.read)
				return
			}
			changer.gear.Run(NewClear(w.arena, changer.own), func() { changer.sweep(changer.gear.End) })
		}
		changer.read()
		w.finish(changer)
		left := 2
		if clears {
			left = 0
		}
		if len(changer.unlinked) != left || w.arena.Len() != blocks+left {
			t.Fatalf("%v are left, in %d blocks", changer.unlinked, w.arena.Len())
		}
	}
}
