package collect

import (
	"math/rand"
	"slices"
	"testing"

	"roundelay/api"
	"roundelay/arena"
	"roundelay/claim"
	"roundelay/count"
	"roundelay/dir"
	"roundelay/pace"
)

// member of a crowd: it claims a slot, is counted there, is counted no more, and gives the slot back.
type member struct {
	arena   *arena.Arena
	claim   *claim.Claim
	place   api.Place
	count   *count.Count
	leaving bool
}

// seat of one who has claimed that slot already.
func seat(a *arena.Arena, p api.Place) *member {
	return &member{arena: a, place: p, count: count.Enter(a, p)}
}

// doing is the machine that its next step is a step of; nil: it has come to an end.
func (m *member) doing() pace.Machine {
	if m.count != nil && !m.count.Done() {
		return m.count
	}
	if m.claim != nil && !m.claim.Done() {
		return m.claim
	}
	return nil
}

// step on, till it is in, or has left.
func (m *member) step() {
	now := m.doing()
	if now == nil {
		return
	}
	now.Step()
	if p, ok := m.claim.Place(); ok && m.count == nil {
		m.place, m.count = p, count.Enter(m.arena, p)
	}
	if m.leaving && m.count != nil && m.count.Done() {
		own, _ := dir.Word(m.place, api.Own)
		m.arena.Write(own, 0)
	}
}

// leave begins, or one who has stopped is put in order: what it has counted so far is taken off.
func (m *member) leave() {
	if m.count == nil {
		return
	}
	first, last := m.part()
	m.count, m.leaving = count.Exit(m.arena, m.place, first, last), true
}

// part of its path that is counted: from which place on, but below which.
func (m *member) part() (int, int) {
	if m.count == nil {
		return 0, 0
	}
	first, last := m.count.Left()
	if m.leaving {
		return first, last
	}
	return 0, first
}

// isCounted: is some of its path counted?
func (m *member) isCounted() bool {
	first, last := m.part()
	return first < last
}

// isOwnCounted: is the counter of its own node one of those?
func (m *member) isOwnCounted() bool {
	first, _ := m.part()
	return first == 0 && m.isCounted()
}

// isSomewhere: has it a slot? That of one who has left may be another one's by now.
func (m *member) isSomewhere() bool { return m.count != nil && (!m.leaving || !m.count.Done()) }

// isWhole: is all of its path counted?
func (m *member) isWhole() bool {
	first, last := m.part()
	return first == 0 && last == len(dir.Path(m.place.Slot))
}

// watch over a collect, from its beginning on.
type watch struct {
	collect *Collect
	// whole are those whose path was counted all the time so far; some are those of whose path some was counted at some time, own those whose own node was.
	whole, some, own map[int]bool
	reads            int
}

func newWatch(a *arena.Arena, members []*member) *watch {
	w := &watch{collect: New(a), whole: map[int]bool{}, some: map[int]bool{}, own: map[int]bool{}}
	for _, m := range members {
		if m.isSomewhere() {
			w.whole[m.place.Slot] = true
			w.see(m)
		}
	}
	return w
}

// see what has become of a member.
func (w *watch) see(m *member) {
	if m.count == nil {
		return
	}
	if m.isCounted() {
		w.some[m.place.Slot] = true
	}
	if m.isOwnCounted() {
		w.own[m.place.Slot] = true
	}
	if !m.isWhole() {
		delete(w.whole, m.place.Slot)
	}
}

func (w *watch) step() {
	if !w.collect.Done() {
		w.reads++
		w.collect.Step()
	}
}

// check what a collect that is done has to have found, and may have.
func (w *watch) check(t *testing.T) {
	t.Helper()
	found := map[int]bool{}
	last := -1
	for _, p := range w.collect.Places() {
		g, _, _ := segmentOf(p.Slot)
		if p.Slot <= last || p.Seg != w.collect.Seg(g) || !w.own[p.Slot] {
			t.Fatalf("%v is found; counted at some time: %v", w.collect.Places(), w.own)
		}
		last = p.Slot
		found[p.Slot] = true
	}
	for slot := range w.whole {
		if !found[slot] {
			t.Fatalf("%d isn't found: %v", slot, w.collect.Places())
		}
	}
	if w.reads > 16+16*len(w.some) {
		t.Fatalf("%d reads, %d were counted", w.reads, len(w.some))
	}
}

// schedules are all rows in which each is picked just so many times.
func schedules(left, row []int, do func(row []int)) {
	ended := true
	for i := range left {
		if left[i] == 0 {
			continue
		}
		ended = false
		left[i]--
		schedules(left, append(row, i), do)
		left[i]++
	}
	if ended {
		do(row)
	}
}

// every schedule of a collect, and of those that enter these slots (and exit them again: steps tells how many steps they do of that); within tells who is counted already when it begins.
func every(t *testing.T, segments int, within, slots, steps []int) int {
	t.Helper()
	base, segs := newArena(t, segments)
	// No more reads than each fixed word, and each counter.
	left := append([]int{min(segments+1, 8) + (2<<segments - 2 - segments)}, steps...)
	n := 0
	schedules(left, nil, func(row []int) {
		n++
		a := base.Clone()
		var l []*member
		for _, p := range placesOf(segs, slots...) {
			l = append(l, seat(a, p))
		}
		for _, i := range within {
			for l[i].doing() != nil {
				l[i].step()
			}
		}
		var w *watch
		for _, i := range row {
			if i == 0 {
				if w == nil {
					w = newWatch(a, l)
				}
				w.step()
				continue
			}
			m := l[i-1]
			if m.doing() == nil {
				m.leave()
			}
			m.step()
			if w != nil && !w.collect.Done() {
				w.see(m)
			}
		}
		if !w.collect.Done() {
			t.Fatalf("the row %v doesn't end it", row)
		}
		w.check(t)
	})
	return n
}

func TestEveryScheduleP13_2(t *testing.T) {
	none := []int(nil)
	if n := every(t, 1, none, []int{0}, []int{2}); n != 10 {
		t.Fatalf("%d schedules", n)
	}
	every(t, 2, none, []int{1}, []int{4})
	every(t, 2, none, []int{2}, []int{4})
	every(t, 2, []int{0}, []int{1}, []int{4})
	every(t, 2, none, []int{0, 2}, []int{2, 4})
	every(t, 2, []int{0}, []int{1, 2}, []int{2, 4})
	every(t, 2, []int{0}, []int{2, 1}, []int{2, 4})
	every(t, 2, []int{0, 1}, []int{1, 2}, []int{2, 2})
	every(t, 2, []int{0, 1, 2}, []int{0, 1, 2}, []int{1, 2, 2})
	every(t, 3, none, []int{3}, []int{3})
	every(t, 3, []int{0}, []int{6}, []int{3})
	every(t, 3, []int{0}, []int{4, 3}, []int{0, 6})
	every(t, 3, []int{0}, []int{5, 3}, []int{3, 1})
}

// crowd of those that come and go, and of collects that look for them.
type crowd struct {
	t       *testing.T
	arena   *arena.Arena
	members []*member
	watches []*watch
	// checked are the collects that were done, whole those who were there all the time of one of them.
	checked, whole int
}

func newCrowd(t *testing.T) *crowd {
	a, err := arena.New(3000)
	if err != api.OK {
		t.Fatalf("New: %d", err)
	}
	return &crowd{t: t, arena: a}
}

func (w *crowd) come() *member {
	m := &member{arena: w.arena, claim: claim.New(w.arena, uint64(len(w.members)+1))}
	w.members = append(w.members, m)
	return m
}

func (w *crowd) look() *watch {
	x := newWatch(w.arena, w.members)
	w.watches = append(w.watches, x)
	return x
}

// pick a member: its next step, or one who is in turns to leave, and one who has left goes.
func (w *crowd) pick(m *member) {
	if m.doing() == nil {
		if m.leaving {
			w.forget(m)
			return
		}
		m.leave()
	}
	m.step()
	for _, x := range w.watches {
		x.see(m)
	}
}

func (w *crowd) forget(m *member) {
	i := slices.Index(w.members, m)
	w.members = slices.Delete(w.members, i, i+1)
}

// stepOf a collect; one that is done is checked, and goes.
func (w *crowd) stepOf(x *watch) {
	w.t.Helper()
	x.step()
	if x.collect.Done() {
		x.check(w.t)
		w.checked++
		w.whole += len(x.whole)
		i := slices.Index(w.watches, x)
		w.watches = slices.Delete(w.watches, i, i+1)
	}
}

// walk draws who comes, goes on and leaves, and whose collect goes on; all of them at most so many.
func walk(w *crowd, r *rand.Rand, most, steps int) {
	w.t.Helper()
	for range steps {
		x := r.Intn(10)
		switch {
		case x == 0 && len(w.members) < most:
			w.come()
		case x == 1 && len(w.watches) < 4:
			w.look()
		case x < 6 && len(w.watches) > 0:
			w.stepOf(w.watches[r.Intn(len(w.watches))])
		case len(w.members) > 0:
			m := w.members[r.Intn(len(w.members))]
			if m.doing() != nil || r.Intn(10) == 0 {
				w.pick(m)
			}
		}
	}
	for len(w.watches) > 0 {
		w.stepOf(w.watches[0])
	}
	if w.arena.Faults() != 0 {
		w.t.Fatalf("%d faults", w.arena.Faults())
	}
}

// The seed is fixed, so that each run sees the same.
func TestDrawnSchedulesP13_2(t *testing.T) {
	r := rand.New(rand.NewSource(4))
	for _, most := range []int{1, 3, 7, 20, 60} {
		checked, whole := 0, 0
		for range 60 {
			w := newCrowd(t)
			walk(w, r, most, 3000)
			checked += w.checked
			whole += w.whole
		}
		if checked < 1000 || whole < 1000 {
			t.Fatalf("at most %d there: %d collects were done, %d were there all the time", most, checked, whole)
		}
	}
}

// Many come, and all but a few leave again: those that are left are found with few reads, all over the segments.
func TestManyGoneP13_2(t *testing.T) {
	r := rand.New(rand.NewSource(5))
	for range 20 {
		w := newCrowd(t)
		for range 255 {
			m := w.come()
			for m.doing() != nil {
				m.step()
			}
		}
		r.Shuffle(255, func(i, j int) { w.members[i], w.members[j] = w.members[j], w.members[i] })
		few := r.Intn(6)
		for _, m := range w.members[few:] {
			m.leave()
			for m.doing() != nil {
				m.step()
			}
		}
		w.members = w.members[:few]
		x := w.look()
		for !x.collect.Done() {
			x.step()
		}
		x.check(t)
		if len(x.whole) != few || len(x.some) != few || len(x.collect.Places()) != few {
			t.Fatalf("%d there: %v", few, x.collect.Places())
		}
	}
}

// Where all stop, at whatever step of whatever they do, a collect finds who is wholly counted, and ends.
func TestStopP13_2(t *testing.T) {
	for slot := range 255 {
		a, segs := newArena(t, 8)
		enter(a, segs, (slot+77)%255)
		m := seat(a, placesOf(segs, slot)[0])
		for range 2*len(dir.Path(slot)) + 1 {
			w := newWatch(a, []*member{m})
			for _, l := range []map[int]bool{w.whole, w.some, w.own} {
				l[(slot+77)%255] = true
			}
			for !w.collect.Done() {
				w.step()
			}
			w.check(t)
			if m.doing() == nil {
				m.leave()
			}
			m.step()
		}
	}
}
