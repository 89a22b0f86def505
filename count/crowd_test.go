package count

import (
	"math/rand"
	"testing"

	"roundelay/api"
	"roundelay/arena"
)

// member of a crowd: it enters a slot, is within, or exits it.
type member struct {
	place api.Place
	path  []int
	count *Count
	// from and below: that part of the path is counted by this one.
	from, below int
	leaving     bool
}

// crowd of those that enter and exit, in an arena with all segments, of whose counters each began with a number of its own.
type crowd struct {
	t       *testing.T
	arena   *arena.Arena
	segs    []uint64
	began   [][]uint64
	members []*member
}

func newCrowd(t *testing.T, segments int, from uint64) *crowd {
	w := &crowd{t: t, arena: newArena(t)}
	for g := range segments {
		words := make([]uint64, 7<<g)
		for i := range words {
			words[i] = from * uint64(i+g)
		}
		h, err := w.arena.Lay(words...)
		if err != api.OK {
			t.Fatalf("Lay: %d", err)
		}
		w.segs = append(w.segs, h)
		w.began = append(w.began, words)
	}
	return w
}

func (w *crowd) come(slot int) *member {
	g, _, _ := segmentOf(slot)
	p := api.Place{Seg: w.segs[g], Slot: slot}
	m := &member{place: p, path: counters(slot), count: Enter(w.arena, p)}
	w.members = append(w.members, m)
	return m
}

// leave begins, or one who has stopped is put in order: what it has counted so far is taken off.
func (w *crowd) leave(m *member) {
	first, last := m.count.Left()
	if !m.leaving {
		first, last = 0, first
	}
	m.count, m.leaving = Exit(w.arena, m.place, first, last), true
}

// pick a member: its next step.
func (w *crowd) pick(m *member) {
	w.t.Helper()
	if m.count.Done() {
		return
	}
	m.count.Step()
	if m.leaving {
		m.from++
	} else {
		m.below++
	}
	w.agree()
}

// go to the end of what a member does.
func (w *crowd) finish(m *member) {
	w.t.Helper()
	for !m.count.Done() {
		w.pick(m)
	}
}

func (w *crowd) forget(m *member) {
	for i, x := range w.members {
		if x == m {
			w.members = append(w.members[:i], w.members[i+1:]...)
			return
		}
	}
}

// agree: each counter is more than it was at the beginning by just so many as have counted there, and no other word has changed.
func (w *crowd) agree() {
	w.t.Helper()
	for g, seg := range w.segs {
		want := append([]uint64(nil), w.began[g]...)
		for _, m := range w.members {
			if m.place.Seg == seg && m.from < m.below {
				for _, at := range m.path[m.from:m.below] {
					want[at]++
				}
			}
		}
		for at := range want {
			is, _ := w.arena.Read(api.Addr{Block: seg, At: at})
			if is != want[at] {
				w.t.Fatalf("segment %d: the word %d is %d, want %d", g, at, is, want[at])
			}
		}
	}
	if w.arena.Faults() != 0 {
		w.t.Fatalf("%d faults", w.arena.Faults())
	}
}

// schedules are all rows in which each is picked just so many times.
func schedules(left, row []int, do func(row []int)) {
	ended := true
	for i := range left {
		if left[i] == 0 {
			continue
		}
		ended = false
		left[i]--
		schedules(left, append(row, i), do)
		left[i]++
	}
	if ended {
		do(row)
	}
}

// every schedule of those that enter these slots and exit them again leaves all as it was.
func every(t *testing.T, from uint64, slots ...int) int {
	t.Helper()
	left := make([]int, len(slots))
	segments := 0
	for i, slot := range slots {
		g, _, _ := segmentOf(slot)
		left[i] = 2 * len(counters(slot))
		segments = max(segments, g+1)
	}
	n := 0
	schedules(left, nil, func(row []int) {
		n++
		w := newCrowd(t, segments, from)
		for _, slot := range slots {
			w.come(slot)
		}
		l := append([]*member(nil), w.members...)
		for _, i := range row {
			if l[i].count.Done() {
				w.leave(l[i])
			}
			w.pick(l[i])
		}
		for _, m := range l {
			if !m.count.Done() || m.from != len(m.path) {
				t.Fatalf("%v: the row %v doesn't end it", m.place, row)
			}
			w.forget(m)
		}
		w.agree()
	})
	return n
}

func TestEveryScheduleP12_2(t *testing.T) {
	if n := every(t, 0, 3, 4); n != 924 {
		t.Fatalf("%d schedules", n)
	}
	every(t, 0, 0, 1)
	every(t, 0, 5, 5)
	every(t, 1<<62, 3, 6)
	every(t, 0, 2, 4)
	every(t, 0, 0, 0, 0)
	every(t, 0, 0, 1, 2)
	if n := every(t, 0, 1, 1, 2); n != 34650 {
		t.Fatalf("%d schedules", n)
	}
}

// One who stops, at whatever place of whatever it does, is put in order by what it tells that is left.
func TestStopP12_2(t *testing.T) {
	for slot := range 255 {
		for stop := range 2*len(counters(slot)) + 1 {
			w := newCrowd(t, 8, 0)
			m := w.come(slot)
			for range stop {
				if m.count.Done() {
					w.leave(m)
				}
				w.pick(m)
			}
			w.leave(m)
			w.finish(m)
			w.forget(m)
			w.agree()
		}
	}
}

// Whatever part of one's path is exited first, and in how many parts, all of it leaves the counters as they were.
func TestPartsP12_2(t *testing.T) {
	for slot := range 255 {
		a, p := placeIn(t, slot, 0)
		was := a.Clone()
		length := len(counters(slot))
		for x := range length + 1 {
			for y := x; y <= length; y++ {
				n := toEnd(t, Enter(a, p))
				n += toEnd(t, Exit(a, p, y, length))
				n += toEnd(t, Exit(a, p, 0, x))
				n += toEnd(t, Exit(a, p, x, y))
				if n != 2*length {
					t.Fatalf("slot %d: %d steps", slot, n)
				}
				isAlike(t, a, was)
			}
		}
	}
}

// walk draws who comes, goes on, turns back and leaves.
func walk(w *crowd, r *rand.Rand, slots, steps int) {
	w.t.Helper()
	for range steps {
		if len(w.members) == 0 || r.Intn(5) == 0 {
			w.come(r.Intn(slots))
			continue
		}
		m := w.members[r.Intn(len(w.members))]
		switch {
		case r.Intn(4) == 0:
			w.leave(m)
		case !m.count.Done():
			w.pick(m)
		case m.leaving:
			w.forget(m)
		}
	}
	for len(w.members) > 0 {
		m := w.members[0]
		w.leave(m)
		w.finish(m)
		w.forget(m)
	}
	w.agree()
}

// The seed is fixed, so that each run sees the same.
func TestDrawnSchedulesP12_2(t *testing.T) {
	r := rand.New(rand.NewSource(1))
	for range 100 {
		walk(newCrowd(t, 3, 0), r, 7, 300)
		walk(newCrowd(t, 4, r.Uint64()), r, 15, 300)
	}
	for range 5 {
		walk(newCrowd(t, 8, 0), r, 255, 2000)
		walk(newCrowd(t, 8, r.Uint64()), r, 255, 2000)
	}
}

// All at once, and none any more: each topmost counter is as many as its segment has slots, and 0 again.
func TestFullP12_2(t *testing.T) {
	w := newCrowd(t, 8, 0)
	for slot := range 255 {
		w.finish(w.come(slot))
	}
	for g, seg := range w.segs {
		for node := 1; node < 2<<g; node++ {
			level := 0
			for node>>level > 1 {
				level++
			}
			n, _ := w.arena.Read(api.Addr{Block: seg, At: 5<<g + node})
			if n != 1<<(g-level) {
				t.Fatalf("segment %d, node %d: %d", g, node, n)
			}
		}
	}
	for _, m := range w.members {
		w.leave(m)
		w.finish(m)
	}
	w.members = nil
	w.agree()
}
