package attic

import (
	"math/rand"
	"slices"
	"testing"

	"roundelay/api"
	"roundelay/count"
	"roundelay/fields"
	"roundelay/hold"
	"roundelay/pace"
)

// look is what a slot had at one time: is its path counted, and what does it hold?
type look struct {
	counted bool
	holds   [2]uint64
}

// watch over a sweep: looks are those at each slot, time by time, since it was made.
type watch struct {
	list, left []uint64
	most       int
	looks      [][]look
}

// isHeldAllTheTime: by one word of a slot that is counted all the time?
func (w *watch) isHeldAllTheTime(h uint64) bool {
	for slot := range w.looks[0] {
		for field := range 2 {
			all := true
			for _, l := range w.looks {
				all = all && l[slot].counted && l[slot].holds[field] == h
			}
			if all {
				return true
			}
		}
	}
	return false
}

// isHeldAtAnyTime by anybody, who isn't counted, too?
func (w *watch) isHeldAtAnyTime(h uint64) bool {
	for _, l := range w.looks {
		for _, x := range l {
			if x.holds[0] == h || x.holds[1] == h {
				return true
			}
		}
	}
	return false
}

// check a sweep that is done; it tells how many blocks it freed, and how many it left.
func (w *watch) check(t *testing.T, lives func(h uint64) bool) (freed, left int) {
	t.Helper()
	for _, h := range w.list {
		if !lives(h) {
			freed++
		}
	}
	if freed > max(w.most, 0) {
		t.Fatalf("%d were freed, the most is %d", freed, w.most)
	}
	for _, h := range w.list {
		switch {
		case !lives(h) && w.isHeldAllTheTime(h):
			t.Fatalf("%d was held all the time, and freed: %v", h, w.looks)
		case lives(h) && freed < w.most && !w.isHeldAtAnyTime(h):
			t.Fatalf("%d was never held, and isn't freed: %v", h, w.looks)
		case lives(h) != slices.Contains(w.left, h):
			t.Fatalf("%d lives: %t; %v are in the list", h, lives(h), w.left)
		}
	}
	return freed, len(w.list) - freed
}

// schedules are all rows in which each is picked just so many times.
func schedules(left, row []int, do func(row []int)) {
	ended := true
	for i := range left {
		if left[i] == 0 {
			continue
		}
		ended = false
		left[i]--
		schedules(left, append(row, i), do)
		left[i]++
	}
	if ended {
		do(row)
	}
}

// rowsOf so many out of so many.
func rowsOf(length, of int, row []int, do func(row []int)) {
	if length == 0 {
		do(row)
		return
	}
	for i := range of {
		rowsOf(length-1, of, append(row, i), do)
	}
}

// act of a slot: it holds a block, or lets go of it, or is counted, or isn't any more.
func act(r room, own api.Place, h uint64, what int) {
	switch what {
	case 0:
		r.arena.Write(holdA(own), h)
	case 1:
		r.arena.Write(holdA(own), 0)
	case 2:
		r.arena.Write(holdB(own), h)
	case 3:
		r.arena.Write(holdB(own), 0)
	case 4:
		w, _ := r.arena.Read(counters(own)[0])
		countBy(r.arena, own, 1-2*int(w))
	}
}

// lookAt a slot.
func (r room) lookAt(own api.Place) []look {
	x := look{counted: true}
	for _, c := range counters(own) {
		n, _ := r.arena.Read(c)
		x.counted = x.counted && n != 0
	}
	x.holds[0], _ = r.arena.Read(holdA(own))
	x.holds[1], _ = r.arena.Read(holdB(own))
	return []look{x}
}

// every schedule of a sweep of three handles, and of all rows of one slot's acts on the first one of them, whatever it does already.
func every(t *testing.T, slot, acts, steps, most int) (n, freed, left int) {
	t.Helper()
	base, segs := newRoom(t, 2)
	own, list := placeIn(segs, slot), base.lay(t, 3)
	base.attic.Put(9, list...)
	run := func(first, what, row []int) {
		n++
		r := base.clone()
		r.hold(own, uint64(first[0])*list[0], uint64(first[1])*list[0])
		countBy(r.arena, own, first[2])
		s := NewSweep(r.arena, r.attic, 9, most)
		w := &watch{list: list, most: most, looks: [][]look{r.lookAt(own)}}
		for _, who := range row {
			if who == 0 {
				s.Step()
			} else {
				act(r, own, list[0], what[0])
				what = what[1:]
			}
			w.looks = append(w.looks, r.lookAt(own))
			if s.Done() {
				break
			}
		}
		if !s.Done() {
			t.Fatalf("%d steps don't end it", steps)
		}
		w.left = r.attic.List(9)
		x, y := w.check(t, r.lives)
		freed, left = freed+x, left+y
	}
	rowsOf(3, 2, nil, func(first []int) {
		rowsOf(acts, 5, nil, func(what []int) {
			schedules([]int{steps, acts}, nil, func(row []int) { run(first, what, row) })
		})
	})
	return n, freed, left
}

// A sweep has five reads of fixed words and counters here, or seven, if one of the slots 1 and 2 is counted; two of holds; and three Frees at most.
func TestEveryScheduleP15_3(t *testing.T) {
	for slot, steps := range []int{10, 12, 12} {
		n, freed, left := every(t, slot, 2, steps, 3)
		if rows := (steps + 1) * (steps + 2) / 2; n != 8*25*rows || freed < 2*n || left < n/4 {
			t.Fatalf("slot %d: %d schedules, %d freed, %d left", slot, n, freed, left)
		}
	}
	if n, freed, left := every(t, 0, 3, 8, 1); n != 8*125*165 || freed < n*3/4 || left < 2*n {
		t.Fatalf("%d schedules, %d freed, %d left", n, freed, left)
	}
}

// crowd of those that come and go, change the root, and sweep; a head here has the handles of two nodes; both may be one.
type crowd struct {
	t *testing.T
	room
	segs    []uint64
	members []*member
	// watches over the sweeps that go on.
	watches map[*watch]bool
	// laid is what each block that ever was laid has: none is written again.
	laid map[uint64][]uint64
	// freed and left are how many blocks sweeps freed, and left.
	freed, left int
}

func newCrowd(t *testing.T, members int) *crowd {
	t.Helper()
	r, segs := newRoom(t, 3)
	w := &crowd{t: t, room: r, segs: segs, watches: map[*watch]bool{}, laid: map[uint64][]uint64{}}
	for slot := range members {
		w.members = append(w.members, &member{crowd: w, own: placeIn(segs, slot)})
	}
	x, y := w.layOne(1, 2, 3, 4), w.layOne(5, 6, 7, 8)
	root, _ := fields.Root(w.layOne(x, y), 0)
	w.arena.Write(api.Addr{}, root)
	return w
}

// layOne block, in one access.
func (w *crowd) layOne(words ...uint64) uint64 {
	w.t.Helper()
	h, err := w.arena.Lay(words...)
	if err != api.OK {
		w.t.Fatalf("Lay: %d", err)
	}
	w.laid[h] = words
	return h
}

// looks at all members.
func (w *crowd) looks() []look {
	var l []look
	for _, m := range w.members {
		x := look{counted: m.counted}
		x.holds[0], _ = w.arena.Read(holdA(m.own))
		x.holds[1], _ = w.arena.Read(holdB(m.own))
		l = append(l, x)
	}
	return l
}

// pick a member: its next step, behind which nobody may have come to a block that was freed.
func (w *crowd) pick(m *member) {
	w.t.Helper()
	m.gear.Step()
	l := w.looks()
	for x := range w.watches {
		x.looks = append(x.looks, l)
	}
	if m.swept != nil {
		freed, left := m.swept.check(w.t, w.lives)
		w.freed, w.left = w.freed+freed, w.left+left
		delete(w.watches, m.swept)
		m.swept = nil
	}
	if w.arena.Faults() != 0 {
		w.t.Fatalf("slot %d comes to a block that is gone", m.own.Slot)
	}
}

// member of a crowd.
type member struct {
	crowd   *crowd
	gear    pace.Gear
	own     api.Place
	counted bool
	// swept is the watch over a sweep that has just been done.
	swept *watch
	// then is what it does when it has read all, under that root.
	then func(root uint64, head []uint64)
}

// enter, and then go on.
func (m *member) enter(then func()) {
	m.gear.Run(count.Enter(m.crowd.arena, m.own), func() {
		m.counted = true
		then()
	})
}

// leave: nothing is held any more, the list is swept, and then nobody counts it.
func (m *member) leave(then func()) {
	m.gear.Run(hold.NewClear(m.crowd.arena, m.own), func() {
		m.sweep(1000, func() {
			m.counted = false
			path := len(counters(m.own))
			m.gear.Run(count.Exit(m.crowd.arena, m.own, 0, path), then)
		})
	})
}

// read a whole version: the head, and both its nodes. When it has changed meanwhile, it begins anew.
func (m *member) read() {
	g := hold.NewGrip(m.crowd.arena, m.own)
	m.gear.Run(g, func() {
		if g.Out() != api.Won {
			m.read()
			return
		}
		h := fields.Top(g.Root())
		words := pace.NewReads(m.crowd.arena, api.Addr{Block: h}, api.Addr{Block: h, At: 1})
		m.gear.Run(words, func() {
			m.isLaid(h, words.Words())
			m.fetch(g.Root(), words.Words(), 0)
		})
	})
}

// fetch the nodes from this one on.
func (m *member) fetch(root uint64, head []uint64, at int) {
	if at == len(head) {
		m.then(root, head)
		return
	}
	f := hold.NewFetch(m.crowd.arena, m.own, root, head[at], 4)
	m.gear.Run(f, func() {
		if f.Out() != api.Won {
			m.read()
			return
		}
		m.isLaid(head[at], f.Words())
		m.fetch(root, head, at+1)
	})
}

// isLaid: what was read is what the block was laid with.
func (m *member) isLaid(h uint64, words []uint64) {
	m.crowd.t.Helper()
	if want := m.crowd.laid[h]; want == nil || !slices.Equal(words, want) {
		m.crowd.t.Errorf("slot %d: %v of the block %d, want %v", m.own.Slot, words, h, want)
	}
}

// change the root to a version with another node in that place; what it loses comes into the attic, or, if it comes too late, what it laid is freed.
func (m *member) change(root uint64, head []uint64, at int, then func()) {
	a := m.crowd.arena
	m.gear.To(func() {
		node := m.crowd.layOne(root, uint64(at), 9, 9)
		m.gear.To(func() {
			next := slices.Clone(head)
			next[at] = node
			h := m.crowd.layOne(next...)
			m.gear.To(func() {
				fresh, _ := fields.Root(h, 0)
				if did, _ := a.Swap(api.Addr{}, root, fresh); !did {
					m.gear.Run(pace.NewFrees(a, node, h), then)
					return
				}
				m.crowd.attic.Put(m.own.Slot, head[at], fields.Top(root))
				m.sweep(3, then)
			})
		})
	})
}

// sweep its own list.
func (m *member) sweep(most int, then func()) {
	w := m.crowd
	list := w.attic.List(m.own.Slot)
	if len(list) == 0 {
		m.gear.Run(NewSweep(w.arena, w.attic, m.own.Slot, most), then)
		return
	}
	x := &watch{list: list, most: most, looks: [][]look{w.looks()}}
	w.watches[x] = true
	m.gear.Run(NewSweep(w.arena, w.attic, m.own.Slot, most), func() {
		x.left = w.attic.List(m.own.Slot)
		m.swept = x
		then()
	})
}

// goOn for ever: what was read is changed, or let go of; or it leaves, and comes again.
func goOn(m *member, r *rand.Rand) {
	m.then = func(root uint64, head []uint64) {
		switch r.Intn(5) {
		case 0, 1:
			m.change(root, head, r.Intn(2), m.read)
		case 2:
			m.gear.Run(hold.NewClear(m.crowd.arena, m.own), m.read)
		case 3:
			m.leave(func() { m.enter(m.read) })
		default:
			m.read()
		}
	}
	m.enter(m.read)
}

// Whoever is picked, and whoever stops for ever while it holds something: nobody comes to what is gone. The seed is fixed, so that each run sees the same.
func TestDrawnSchedulesP15_3(t *testing.T) {
	r := rand.New(rand.NewSource(3))
	for members := 1; members <= 7; members++ {
		freed, left := 0, 0
		for range 10 {
			w := newCrowd(t, members)
			for _, m := range w.members {
				goOn(m, r)
			}
			stopped := 0
			for range 2000 {
				if stopped < members-1 && r.Intn(1000) == 0 {
					stopped++
				}
				// Some are picked often in a row, so that much becomes of them while the others stand still.
				m := w.members[stopped+r.Intn(members-stopped)]
				for range 1 + r.Intn(4)*r.Intn(20) {
					w.pick(m)
				}
			}
			freed, left = freed+w.freed, left+w.left
		}
		if freed < 2000 || members > 1 && left < 1000 {
			t.Fatalf("%d members: %d freed, %d left", members, freed, left)
		}
	}
}

// What one holds who has stopped stays, and all else goes; when it is let go of, that goes, too.
func TestLetGoP15_3(t *testing.T) {
	w := newCrowd(t, 2)
	blocks := w.arena.Len()
	holder, changer := w.members[0], w.members[1]
	holder.then = func(uint64, []uint64) { holder.gear.End() }
	holder.enter(holder.read)
	w.finish(holder)
	rounds := 0
	changer.then = func(root uint64, head []uint64) {
		rounds++
		if rounds <= 10 {
			changer.change(root, head, rounds%2, changer.read)
			return
		}
		changer.leave(changer.gear.End)
	}
	changer.enter(changer.read)
	w.finish(changer)
	// The head that it gripped, and the node that it fetched last.
	if w.attic.Len() != 2 || w.arena.Len() != blocks+2 {
		t.Fatalf("%v are left, in %d blocks", w.attic.All(), w.arena.Len())
	}
	holder.gear.Run(hold.NewClear(w.arena, holder.own), holder.gear.End)
	w.finish(holder)
	changer.enter(func() { changer.leave(changer.gear.End) })
	w.finish(changer)
	if w.attic.Len() != 0 || w.arena.Len() != blocks {
		t.Fatalf("%v are left, in %d blocks", w.attic.All(), w.arena.Len())
	}
}

// finish what a member does.
func (w *crowd) finish(m *member) {
	w.t.Helper()
	for n := 0; !m.gear.Done(); n++ {
		if n > 2000 {
			w.t.Fatalf("slot %d is never done", m.own.Slot)
		}
		w.pick(m)
	}
}

// Who holds something, but is counted only when the collect is by, holds nothing back.
func TestCountedTooLateP15_3(t *testing.T) {
	for at := range 12 {
		r, segs := newRoom(t, 1)
		own := placeIn(segs, 0)
		l := r.lay(t, 2)
		r.attic.Put(0, l...)
		r.hold(own, l[0], l[1])
		before := slices.Repeat([]change{nothing}, at)
		follow(t, r, 0, 2, append(before, func(x room) { countBy(x.arena, own, 1) })...)
		if held := at < 2; r.lives(l[0]) != held || r.lives(l[1]) != held {
			t.Fatalf("counted behind %d steps: %v", at, r.attic.All())
		}
	}
}
