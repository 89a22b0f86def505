package gather

import (
	"math/rand"
	"slices"
	"testing"

	"roundelay/api"
	"roundelay/arena"
	"roundelay/claim"
	"roundelay/count"
	"roundelay/pace"
)

// member is one who comes, asks, is answered, and leaves: each step is one access.
type member struct {
	arena *arena.Arena
	gear  pace.Gear
	own   api.Place
	// entering and leaving tell how much of the path is counted.
	entering, leaving *count.Count
}

// seat of one who has claimed that slot already.
func seat(a *arena.Arena, own api.Place) *member { return &member{arena: a, own: own} }

// isWhole: is all of its path counted?
func (m *member) isWhole() bool {
	if m.leaving != nil {
		first, _ := m.leaving.Left()
		return first == 0
	}
	return m.entering != nil && m.entering.Done()
}

// isSomewhere: has it a slot? That of one who has left may be another one's by now.
func (m *member) isSomewhere() bool {
	return m.entering != nil && (m.leaving == nil || !m.leaving.Done())
}

// asks for something? It does, too, while it comes, if its slot did so when another one stopped there.
func (m *member) asks() (api.Asked, bool) {
	if !m.isSomewhere() {
		return api.Asked{}, false
	}
	ask := word(m.arena, m.own, api.Ask)
	o, ok := operation(ask % (1 << 32))
	if !ok || ask>>32 <= word(m.arena, m.own, api.Told)>>32 {
		return api.Asked{}, false
	}
	return api.Asked{Place: m.own, Seq: ask >> 32, Op: o}, true
}

// enter, and then go on.
func (m *member) enter(then func()) {
	m.entering, m.leaving = count.Enter(m.arena, m.own), nil
	m.gear.Run(m.entering, then)
}

// leave, and then go on.
func (m *member) leave(then func()) {
	m.leaving = count.Exit(m.arena, m.own, 0, len(counters(m.own)))
	m.gear.Run(m.leaving, then)
}

// ask for something, of the next Seq.
func (m *member) ask(o api.Op, then func()) {
	m.gear.To(func() {
		ask(m.arena, m.own, word(m.arena, m.own, api.Told)>>32+1, number(o))
		then()
	})
}

// tell what is asked for at its place.
func (m *member) tell(then func()) {
	m.gear.To(func() {
		answer(m.arena, m.own)
		then()
	})
}

// takeBack what is asked for at its place.
func (m *member) takeBack(then func()) {
	m.gear.To(func() {
		ask(m.arena, m.own, word(m.arena, m.own, api.Ask)>>32, 0)
		then()
	})
}

func answer(a *arena.Arena, own api.Place) { tell(a, own, word(a, own, api.Ask)>>32, 1) }

// watch over a gather, from its first step on.
type watch struct {
	gather *Gather
	// always is what was asked for all the time so far, where all of the path was counted all the time; ever is what was asked for at some time.
	always, ever map[api.Asked]bool
}

func newWatch(a *arena.Arena, members []*member) *watch {
	w := &watch{gather: New(a), always: map[api.Asked]bool{}, ever: map[api.Asked]bool{}}
	for _, m := range members {
		if asked, ok := m.asks(); ok {
			w.ever[asked] = true
			w.always[asked] = m.isWhole()
		}
	}
	return w
}

// see what has become of all.
func (w *watch) see(members []*member) {
	still := map[api.Asked]bool{}
	for _, m := range members {
		if asked, ok := m.asks(); ok {
			w.ever[asked] = true
			still[asked] = m.isWhole()
		}
	}
	for asked := range w.always {
		w.always[asked] = w.always[asked] && still[asked]
	}
}

// check what a gather that is done has to tell, and may tell.
func (w *watch) check(t *testing.T) {
	t.Helper()
	l := w.gather.Asked()
	for i, asked := range l {
		if i > 0 && asked.Place.Slot <= l[i-1].Place.Slot {
			t.Fatalf("not in order, or twice: %v", l)
		}
		if !w.ever[asked] {
			t.Fatalf("%v was never asked for", asked)
		}
	}
	for asked, all := range w.always {
		if all && !slices.Contains(l, asked) {
			t.Fatalf("%v was asked for all the time: %v", asked, l)
		}
	}
}

// sure tells how many were to be gathered.
func (w *watch) sure() int {
	n := 0
	for _, all := range w.always {
		if all {
			n++
		}
	}
	return n
}

// schedules are all rows in which each is picked just so many times.
func schedules(left, row []int, do func(row []int)) {
	ended := true
	for i := range left {
		if left[i] == 0 {
			continue
		}
		ended = false
		left[i]--
		schedules(left, append(row, i), do)
		left[i]++
	}
	if ended {
		do(row)
	}
}

// deed is what one does, and goes on.
type deed func(m *member, then func())

func asksFor(o api.Op) deed { return func(m *member, then func()) { m.ask(o, then) } }

// live does all that, in order.
func (m *member) live(l []deed) {
	if len(l) == 0 {
		m.gear.End()
		return
	}
	l[0](m, func() { m.live(l[1:]) })
}

// life of one at a slot: so many steps of what it does are done ahead of the gather, and so many from then on.
type life struct {
	slot, ahead, steps int
	deeds              []deed
}

// every schedule of a gather and of those lives; it tells how many there are, and in how many of them something was sure to be gathered.
func every(t *testing.T, segments int, lives ...life) (n, sure int) {
	t.Helper()
	base, segs := newArena(t, segments)
	// No more reads than each fixed word, each counter, and two words of each place.
	left := []int{min(segments+1, 8) + 2<<segments - 2 - segments + 2*len(lives)}
	for _, x := range lives {
		left = append(left, x.steps)
	}
	schedules(left, nil, func(row []int) {
		a := base.Clone()
		var members []*member
		for _, x := range lives {
			m := seat(a, placeIn(segs, x.slot))
			m.live(x.deeds)
			for range x.ahead {
				m.gear.Step()
			}
			members = append(members, m)
		}
		var w *watch
		for _, i := range row {
			if i == 0 {
				if w == nil {
					w = newWatch(a, members)
				}
				w.gather.Step()
				continue
			}
			members[i-1].gear.Step()
			if w != nil && !w.gather.Done() {
				w.see(members)
			}
		}
		if !w.gather.Done() {
			t.Fatalf("the row %v doesn't end it", row)
		}
		w.check(t)
		n++
		sure += min(w.sure(), 1)
	})
	return n, sure
}

func TestEveryScheduleP17_2(t *testing.T) {
	asks, again := asksFor(put(1)), asksFor(put(2))
	tells, back := (*member).tell, (*member).takeBack
	enter, leave := (*member).enter, (*member).leave
	twice := []deed{enter, asks, tells, again, tells, leave}
	taken := []deed{enter, asks, back, tells, again, leave}
	if n, sure := every(t, 1, life{0, 0, 6, twice}); n != 462 || sure == 0 {
		t.Fatalf("%d schedules, %d sure", n, sure)
	}
	for i, lives := range [][]life{
		{{0, 0, 6, taken}},
		{{1, 0, 7, twice}},
		{{2, 1, 6, taken}},
		{{2, 2, 5, []deed{enter, asks, tells, leave, enter, again}}},
		{{1, 3, 2, twice}, {2, 4, 2, twice}},
		{{2, 3, 3, taken}, {0, 2, 1, twice}},
		{{2, 4, 2, taken}, {1, 1, 2, twice}},
		{{0, 2, 1, twice}, {1, 3, 1, taken}, {2, 4, 1, twice}},
		{{1, 3, 1, []deed{enter, asks, leave}}, {2, 3, 2, []deed{enter, asks, leave}}},
	} {
		if n, sure := every(t, 2, lives...); n < 10 || sure == 0 || sure == n && len(lives) == 1 {
			t.Fatalf("%d: %d schedules, %d sure", i, n, sure)
		}
	}
	if _, sure := every(t, 3, life{5, 3, 3, twice}); sure == 0 {
		t.Fatal("nothing was sure")
	}
}

// crowd of those that come, ask, answer one another, leave, and stop; and of gathers.
type crowd struct {
	t       *testing.T
	r       *rand.Rand
	arena   *arena.Arena
	members []*member
	watches []*watch
	// late are answers that somebody has read for, and gives later.
	late []func()
	// came are all that ever did; checked are the gathers that were done, sure what they had to gather, told what they gathered.
	came, checked, sure, told int
}

// come claims a slot, and goes on.
func (w *crowd) come() {
	w.came++
	c := claim.New(w.arena, uint64(w.came))
	m := seat(w.arena, api.Place{})
	m.gear.Run(c, func() {
		own, ok := c.Place()
		if !ok {
			w.t.Errorf("no slot: %d", c.Err())
			return
		}
		m.own = own
		m.enter(func() { w.goOn(m) })
	})
	w.members = append(w.members, m)
}

// goOn: it asks for something, and waits till it is answered; or it leaves.
func (w *crowd) goOn(m *member) {
	if w.r.Intn(4) > 0 {
		o := api.Op{Code: api.MapSwap, Key: w.r.Intn(256), A: w.r.Intn(1024), B: w.r.Intn(1024)}
		m.ask(o, func() { w.wait(m) })
		return
	}
	m.leave(func() {
		m.gear.To(func() {
			w.arena.Write(wordIn(m.own, api.Own), 0)
			i := slices.Index(w.members, m)
			w.members = slices.Delete(w.members, i, i+1)
		})
	})
}

// wait till what it has asked for is answered.
func (w *crowd) wait(m *member) {
	m.gear.To(func() {
		if word(w.arena, m.own, api.Ask)>>32 <= word(w.arena, m.own, api.Told)>>32 {
			w.goOn(m)
		}
	})
}

// help one who asks: it is answered by a swap from what is read now; the swap comes later.
func (w *crowd) help(m *member) {
	asked, ok := m.asks()
	if !ok {
		return
	}
	was, x := word(w.arena, m.own, api.Told), wordIn(m.own, api.Told)
	if w.r.Intn(8) == 0 {
		ask(w.arena, m.own, asked.Seq, 0)
	}
	w.late = append(w.late, func() { w.arena.Swap(x, was, note(asked.Seq, uint64(w.r.Uint32()))) })
}

// give one of the answers.
func (w *crowd) give() {
	i := w.r.Intn(len(w.late))
	w.late[i]()
	w.late = slices.Delete(w.late, i, i+1)
}

// stepOf a gather; one that is done is checked, and goes.
func (w *crowd) stepOf(x *watch) {
	w.t.Helper()
	x.gather.Step()
	if !x.gather.Done() {
		return
	}
	x.check(w.t)
	w.checked++
	w.sure += x.sure()
	w.told += len(x.gather.Asked())
	i := slices.Index(w.watches, x)
	w.watches = slices.Delete(w.watches, i, i+1)
}

// walk draws who does something; those that stop are never picked again.
func (w *crowd) walk(most, steps int) {
	w.t.Helper()
	stopped := 0
	for range steps {
		switch x := w.r.Intn(20); {
		case x == 0 && len(w.members) < most:
			w.come()
		case x == 1 && len(w.watches) < 4:
			w.watches = append(w.watches, newWatch(w.arena, w.members))
		case x < 9 && len(w.watches) > 0:
			w.stepOf(w.watches[w.r.Intn(len(w.watches))])
			continue
		case x == 9 && w.r.Intn(100) == 0 && stopped < len(w.members)-1:
			stopped++
		case x < 12 && len(w.members) > 0 && w.r.Intn(4) == 0:
			w.help(w.members[w.r.Intn(len(w.members))])
		case x < 14 && len(w.late) > 0:
			w.give()
		case len(w.members) > stopped:
			w.members[stopped+w.r.Intn(len(w.members)-stopped)].gear.Step()
		}
		for _, x := range w.watches {
			x.see(w.members)
		}
	}
	// All stand still but those that gather.
	w.watches = append(w.watches, newWatch(w.arena, w.members))
	for len(w.watches) > 0 {
		w.stepOf(w.watches[0])
	}
	if w.arena.Faults() != 0 {
		w.t.Fatalf("%d faults", w.arena.Faults())
	}
}

// The seed is fixed, so that each run sees the same.
func TestDrawnSchedulesP17_2(t *testing.T) {
	r := rand.New(rand.NewSource(3))
	for _, most := range []int{1, 2, 4, 10, 40} {
		checked, sure, told := 0, 0, 0
		for range 30 {
			a, err := arena.New(3000)
			if err != api.OK {
				t.Fatalf("New: %d", err)
			}
			w := &crowd{t: t, r: r, arena: a}
			w.walk(most, 4000)
			checked, sure, told = checked+w.checked, sure+w.sure, told+w.told
		}
		if checked < 1000 || sure < 1000 || told <= sure {
			t.Fatalf("at most %d there: %d gathers, %d sure, %d gathered", most, checked, sure, told)
		}
	}
}

// Who has stopped, at whatever step of whatever it does, is gathered where it is wholly counted and asks, however often.
func TestStopsP17_2(t *testing.T) {
	for slot := range 255 {
		a, segs := newArena(t, 8)
		m, other := seat(a, placeIn(segs, slot)), seat(a, placeIn(segs, (slot+77)%255))
		other.live([]deed{(*member).enter, asksFor(put(3))})
		for !other.gear.Done() {
			other.gear.Step()
		}
		m.live([]deed{(*member).enter, asksFor(put(slot)), (*member).tell, asksFor(put(1)), (*member).leave})
		was := 0
		for !m.gear.Done() {
			m.gear.Step()
			w := newWatch(a, []*member{m, other})
			toEnd(t, w.gather)
			w.check(t)
			if len(w.gather.Asked()) != w.sure() {
				t.Fatalf("slot %d: %v", slot, w.gather.Asked())
			}
			was = max(was, w.sure())
		}
		if was != 2 {
			t.Fatalf("slot %d was never gathered", slot)
		}
	}
}
