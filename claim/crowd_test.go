package claim

import (
	"math/rand"
	"strings"
	"testing"

	"roundelay/api"
	"roundelay/arena"
	"roundelay/dir"
)

// member of a crowd: it claims, or has a slot.
type member struct {
	token uint64
	claim *Claim
	// most that claimed or had a slot at any one time of its claim.
	most int
	// tries are its swaps of Own.
	tries int
}

// crowd of those that claim, have, and give back.
type crowd struct {
	t       *testing.T
	arena   *arena.Arena
	members []*member
	owners  map[int]*member
	births  uint64
	// diary of all that was done, to tell a fault by.
	diary strings.Builder
}

func newCrowd(t *testing.T, capacity int) *crowd {
	return &crowd{t: t, arena: newArena(t, capacity), owners: map[int]*member{}}
}

func (w *crowd) come() *member {
	w.births++
	m := &member{token: w.births, claim: New(w.arena, w.births)}
	w.members = append(w.members, m)
	for _, x := range w.members {
		if !x.claim.Done() {
			x.most = max(x.most, len(w.members))
		}
	}
	w.diary.WriteString(" come")
	return m
}

// pick a member: its next step.
func (w *crowd) pick(m *member) {
	w.t.Helper()
	private := len(m.claim.Private())
	w.diary.WriteString(" ")
	w.diary.WriteString(string(rune('0' + m.token%64)))
	x := did(w.arena, m.claim)
	w.diary.WriteString(x)
	// Who has a private block swaps a fixed word.
	if x == "s" && private == 0 {
		m.tries++
	}
	if m.claim.Done() {
		w.arrive(m)
	}
}

// arrive: the claim has ended, as all that crowd here end.
func (w *crowd) arrive(m *member) {
	w.t.Helper()
	p, ok := m.claim.Place()
	if !ok || m.claim.Err() != api.OK || len(m.claim.Private()) != 0 {
		w.fault("%d: error %d", m.token, m.claim.Err())
	}
	if other := w.owners[p.Slot]; other != nil {
		w.fault("%d and %d have the slot %d", m.token, other.token, p.Slot)
	}
	w.owners[p.Slot] = m
	g, _, _ := dir.Segment(p.Slot)
	if p.Seg == 0 || p.Seg != w.arena.Words()[1+g] || w.arena.Size(p.Seg) != 7<<g {
		w.fault("%d: %v isn't of its segment", m.token, p)
	}
	if p.Slot < 0 || p.Slot >= m.most || m.tries > m.most {
		w.fault("%d: the slot %d, behind %d swaps, of %d at most", m.token, p.Slot, m.tries, m.most)
	}
}

// leave gives back the slot, which has to be one's own till then.
func (w *crowd) leave(m *member) {
	w.t.Helper()
	p, _ := m.claim.Place()
	own, _ := dir.Word(p, api.Own)
	if did, _ := w.arena.Swap(own, m.token, 0); !did {
		w.fault("%d doesn't own the slot %d", m.token, p.Slot)
	}
	delete(w.owners, p.Slot)
	for i, x := range w.members {
		if x == m {
			w.members = append(w.members[:i], w.members[i+1:]...)
			break
		}
	}
	w.diary.WriteString(" leave")
}

func (w *crowd) fault(format string, l ...any) {
	w.t.Helper()
	diary := w.diary.String()
	w.t.Fatalf(format+"; the end of the diary:%s", append(l, diary[max(0, len(diary)-2000):])...)
}

// clean: no block but the segments, no fault, and of those only what is owned differs from 0.
func (w *crowd) clean() {
	w.t.Helper()
	if w.arena.Faults() != 0 {
		w.fault("%d faults", w.arena.Faults())
	}
	private := 0
	for _, m := range w.members {
		private += len(m.claim.Private())
	}
	segs := map[uint64]bool{}
	for _, h := range w.arena.Words()[1:] {
		if h != 0 {
			segs[h] = true
		}
	}
	if w.arena.Len() != len(segs)+private {
		w.fault("%d blocks, %d segments, %d private", w.arena.Len(), len(segs), private)
	}
	owned := 0
	for h, words := range w.arena.All() {
		for _, word := range words {
			if word != 0 {
				owned++
			}
		}
		delete(segs, h)
	}
	if owned != len(w.owners) || len(segs) != 0 {
		w.fault("%d words aren't 0, %d are owned; %d segments aren't there", owned, len(w.owners), len(segs))
	}
}

// choices goes through all rows of choices, each of them once: next tells the number of one among so many.
type choices struct {
	row, of []int
	at      int
}

func (c *choices) next(n int) int {
	if c.at == len(c.row) {
		c.row, c.of = append(c.row, 0), append(c.of, n)
	}
	c.at++
	return c.row[c.at-1]
}

// more: is there another row?
func (c *choices) more() bool {
	c.at = 0
	for n := len(c.row) - 1; n >= 0; n-- {
		if c.row[n]+1 < c.of[n] {
			c.row[n]++
			c.row, c.of = c.row[:n+1], c.of[:n+1]
			return true
		}
	}
	return false
}

// every goes through all schedules of so many that claim once, and stay or leave, in an arena with the segments below that one; it tells how many schedules there are.
func every(t *testing.T, members, segments int, leave bool) int {
	t.Helper()
	var c choices
	count := 0
	for {
		count++
		w := newCrowd(t, 200)
		for g := range segments {
			h, _ := w.arena.Lay(make([]uint64, 7<<g)...)
			w.arena.Write(api.Addr{At: 1 + g}, h)
		}
		busy := make([]*member, members)
		for i := range busy {
			busy[i] = w.come()
		}
		for len(busy) > 0 {
			i := c.next(len(busy))
			m := busy[i]
			arrived := m.claim.Done()
			if arrived {
				w.leave(m)
			} else {
				w.pick(m)
			}
			if arrived || m.claim.Done() && !leave {
				busy = append(busy[:i], busy[i+1:]...)
			}
		}
		w.clean()
		if !leave && len(w.owners) != members {
			w.fault("%d slots are owned", len(w.owners))
		}
		if !c.more() {
			return count
		}
	}
}

func TestEveryScheduleP11_2(t *testing.T) {
	every(t, 1, 0, true)
	every(t, 2, 0, false)
	every(t, 2, 0, true)
	every(t, 2, 2, true)
	every(t, 3, 2, false)
	every(t, 3, 2, true)
	// Each reads, and whoever swaps first leaves the other one alone: AA, ABA, ABB, BAA, BAB, BB.
	if n := every(t, 2, 1, false); n != 6 {
		t.Errorf("%d schedules", n)
	}
}

// walk draws who comes, is picked and leaves; at most so many are there at a time.
func walk(w *crowd, r *rand.Rand, most, steps, coming, leaving int) {
	w.t.Helper()
	for range steps {
		switch x := r.Intn(100); {
		case x < coming && len(w.members) < most || len(w.members) == 0:
			w.come()
		case x >= 100-leaving:
			if m := w.members[r.Intn(len(w.members))]; m.claim.Done() {
				w.leave(m)
			}
		default:
			// A few are picked often: so some come far while others stand still.
			m := w.members[min(r.Intn(len(w.members)), r.Intn(len(w.members)))]
			for n := r.Intn(6); n >= 0 && !m.claim.Done(); n-- {
				w.pick(m)
			}
		}
	}
	w.clean()
}

func TestDrawnSchedulesP11_2(t *testing.T) {
	r := rand.New(rand.NewSource(2))
	for range 300 {
		w := newCrowd(t, 60000)
		walk(w, r, 1+r.Intn(12), 400, 5+r.Intn(40), 5+r.Intn(40))
	}
	for range 10 {
		w := newCrowd(t, 60000)
		walk(w, r, 64, 4000, 30, 5+r.Intn(20))
	}
}

// 255 at a time is what there are slots for: each of them gets one, however they are picked.
func TestFullCrowdP11_2(t *testing.T) {
	r := rand.New(rand.NewSource(3))
	w := newCrowd(t, 60000)
	for range 255 {
		w.come()
	}
	for range 2000 {
		walk(w, r, 255, 1, 0, 0)
	}
	for _, m := range w.members {
		for !m.claim.Done() {
			w.pick(m)
		}
	}
	w.clean()
	if len(w.owners) != 255 || w.arena.Used() != enough {
		w.fault("%d owners, %d words", len(w.owners), w.arena.Used())
	}
	c := New(w.arena, 1)
	row(t, w.arena, c)
	failed(t, c, api.ErrLong)
}

// Who is alone gets the slot 0, however many came and went ahead of it; others that stand still are behind what they passed.
func TestAgainP11_2(t *testing.T) {
	w := newCrowd(t, 60000)
	for range 100 {
		m := w.come()
		for !m.claim.Done() {
			w.pick(m)
		}
		w.leave(m)
	}
	slow := w.come()
	for _, want := range []int{0, 1, 0, 1} {
		m := w.come()
		for !m.claim.Done() {
			w.pick(m)
		}
		if p, _ := m.claim.Place(); p.Slot != want {
			w.fault("the slot %d, want %d", p.Slot, want)
		}
		if want == 1 {
			w.leave(w.owners[0])
			w.leave(m)
		}
	}
	for !slow.claim.Done() {
		w.pick(slow)
	}
	if p, _ := slow.claim.Place(); p.Slot != 0 {
		w.fault("the slot %d of one who is alone at last", p.Slot)
	}
}
