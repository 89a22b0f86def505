package post

import (
	"math/rand"
	"slices"
	"testing"

	"roundelay/api"
	"roundelay/attic"
	"roundelay/count"
	"roundelay/fields"
	"roundelay/hold"
	"roundelay/pace"
)

// race of those that post one head, and of others that come between.
type race struct {
	t *testing.T
	room
	says    []say
	entries []uint64
	places  []api.Place
	top     uint64
	posts   []*Post
	// last is what each slot was told last.
	last []uint64
}

// step of one of them, behind which no Told has fallen, nor changed what it tells of one Seq; of one that is done each entry was posted.
func (x *race) step(who int) {
	x.t.Helper()
	p := x.posts[who]
	p.Step()
	x.noneFalls()
	if p.Done() {
		for _, s := range x.says {
			if x.told(x.places[s.slot])>>32 < s.seq {
				x.t.Fatalf("%d is done, and %v isn't posted", who, s)
			}
		}
	}
}

func (x *race) noneFalls() {
	x.t.Helper()
	for i, own := range x.places {
		w := x.told(own)
		if w>>32 < x.last[i]>>32 || w>>32 == x.last[i]>>32 && w != x.last[i] {
			x.t.Fatalf("the slot %d is told %d behind %d", i, w, x.last[i])
		}
		x.last[i] = w
	}
}

// finish all that haven't stopped; each entry came into the attic once, into the list of one who passed it.
func (x *race) finish(stopped int) {
	x.t.Helper()
	for who, p := range x.posts {
		for n := 0; who != stopped && !p.Done(); n++ {
			if n > 100 {
				x.t.Fatalf("%d is never done", who)
			}
			x.step(who)
		}
	}
	sum := 0
	for who, p := range x.posts {
		if n := len(x.attic.List(who)); n != p.Posted() {
			x.t.Fatalf("%d has posted %d, and put away %d", who, p.Posted(), n)
		}
		sum += p.Posted()
	}
	all := x.attic.All()
	slices.Sort(all)
	if want := slices.Sorted(slices.Values(x.entries)); sum != len(want) || !slices.Equal(all, want) || x.cursor(x.top) != 0 || x.arena.Faults() != 0 {
		x.t.Fatalf("%v are in the attic, want %v; %d faults", all, want, x.arena.Faults())
	}
}

// races of so many that post these entries, by copies of one room.
func races(t *testing.T, posters int, says ...say) func() *race {
	t.Helper()
	r, segs := newRoom(t, 2)
	var places []api.Place
	for slot := range 3 {
		places = append(places, placeIn(segs, slot))
	}
	top, l := r.entries(t, says...)
	return func() *race {
		x := &race{t: t, room: r.clone(), says: says, entries: l, places: places, top: top, last: make([]uint64, 3)}
		for who := range posters {
			x.posts = append(x.posts, New(x.arena, x.attic, places[who], top))
		}
		return x
	}
}

// turns are all ways to switch so many times between so many: who goes first, and for how many steps (below most) each of them goes on.
func turns(who, of, switches, most int, row [][2]int, do func(row [][2]int)) {
	if switches < 0 {
		do(row)
		return
	}
	for next := range of {
		if next == who {
			continue
		}
		for n := 1; n < most; n++ {
			turns(next, of, switches-1, most, append(row, [2]int{next, n}), do)
		}
	}
}

// every schedule with so few switches; behind the last one each goes on to its end, but, by turns, one who stops for ever.
func everyTurn(t *testing.T, posters, switches, most int, says ...say) int {
	t.Helper()
	fresh, n := races(t, posters, says...), 0
	turns(-1, posters, switches, most, nil, func(row [][2]int) {
		x := fresh()
		for _, turn := range row {
			for range turn[1] {
				x.step(turn[0])
			}
		}
		x.finish(n % (posters + 1))
		n++
	})
	return n
}

func TestEveryTurnP16_2(t *testing.T) {
	if n := everyTurn(t, 2, 3, 12, say{0, 5, 1}); n != 2*11*11*11*11 {
		t.Fatalf("%d schedules", n)
	}
	if n := everyTurn(t, 2, 2, 23, say{2, 5, 1}, say{2, 6, 1}); n != 2*22*22*22 {
		t.Fatalf("%d schedules", n)
	}
	if n := everyTurn(t, 2, 2, 23, say{2, 6, 1}, say{2, 5, 1}); n != 2*22*22*22 {
		t.Fatalf("%d schedules", n)
	}
	if n := everyTurn(t, 3, 2, 12, say{1, 1, 0}); n != 3*4*11*11*11 {
		t.Fatalf("%d schedules", n)
	}
	if n := everyTurn(t, 3, 1, 22, say{1, 1, 0}, say{0, api.MostSeq, mostBody}); n != 3*2*21*21 {
		t.Fatalf("%d schedules", n)
	}
}

// One who takes back what a slot asks for tells it so, by a swap from what it has read: at whatever time that is, what is told first of that Seq stays.
func TestTakenBackMeanwhileP16_2(t *testing.T) {
	fresh := races(t, 2, say{0, 5, 1}, say{1, 2, 1})
	for who := range 2 {
		for read := range 12 {
			for swap := read; swap < 24; swap++ {
				for first := range 22 {
					x := fresh()
					for range first {
						x.step(1 - who)
					}
					was, own := uint64(0), x.places[0]
					for n := range 24 {
						if n == read {
							was = x.told(own)
						}
						if n == swap && was>>32 < 5 {
							x.arena.Swap(wordIn(own, api.Told), was, say{0, 5, 5 << 28}.note())
							x.noneFalls()
						}
						x.step(who)
					}
					x.finish(-1)
					if w := x.told(own); w != (say{0, 5, 1}).note() && w != (say{0, 5, 5 << 28}).note() {
						t.Fatalf("told %d", w)
					}
				}
			}
		}
	}
}

// crowd of those that come and go, post what a head tells, put another head into its place, sweep, and stop.
type crowd struct {
	t *testing.T
	room
	segs    []uint64
	members []*member
	// says are what each entry that ever was the root's tells, by its handle; away is how often it was put away.
	says map[uint64]say
	away map[uint64]int
	// of are the entries of each head that ever was the root's.
	of map[uint64][]uint64
	// posts that were done, and entries that were passed.
	posts, passed int
}

func newCrowd(t *testing.T, members int) *crowd {
	t.Helper()
	r, segs := newRoom(t, 3)
	// Nobody is counted yet, or holds anything.
	for g, seg := range segs {
		for at := range 7 << g {
			r.arena.Write(api.Addr{Block: seg, At: at}, 0)
		}
	}
	w := &crowd{t: t, room: r, segs: segs, says: map[uint64]say{}, away: map[uint64]int{}, of: map[uint64][]uint64{}}
	for slot := range members {
		w.members = append(w.members, &member{crowd: w, own: placeIn(segs, slot)})
	}
	top, _ := r.entries(t)
	root, _ := fields.Root(top, 0)
	r.arena.Write(api.Addr{}, root)
	return w
}

// pick a member: its next step, behind which no Told has fallen, nobody has come to a block that is gone, and what it passed was put away once.
func (w *crowd) pick(m *member) {
	w.t.Helper()
	var seqs []uint64
	for _, x := range w.members {
		seqs = append(seqs, w.told(x.own)>>32)
	}
	before := m.passed()
	m.gear.Step()
	for i, x := range w.members {
		if seq := w.told(x.own) >> 32; seq < seqs[i] {
			w.t.Fatalf("the slot %d is told %d behind %d", i, seq, seqs[i])
		}
	}
	if w.arena.Faults() != 0 {
		w.t.Fatalf("slot %d comes to a block that is gone", m.own.Slot)
	}
	if n := m.passed() - before; n != 0 {
		list := w.attic.List(m.own.Slot)
		h := list[len(list)-1]
		w.away[h]++
		if _, isEntry := w.says[h]; n != 1 || !isEntry || w.away[h] != 1 {
			w.t.Fatalf("%d passed at once, %d put away %d times", n, h, w.away[h])
		}
		w.passed++
	}
}

// isPosted: each entry of a head was posted, and put away.
func (w *crowd) isPosted(top uint64) {
	w.t.Helper()
	for _, h := range w.of[top] {
		s := w.says[h]
		if seq := w.told(placeIn(w.segs, s.slot)) >> 32; seq < s.seq || w.away[h] != 1 {
			w.t.Errorf("%v: the slot is told %d, the entry was put away %d times", s, seq, w.away[h])
		}
	}
	w.posts++
}

// member of a crowd.
type member struct {
	crowd *crowd
	gear  pace.Gear
	own   api.Place
	post  *Post
	// before is how many it passed by posts ahead of this one.
	before int
	// then is what it does when all is posted under that root.
	then func(root uint64)
}

func (m *member) passed() int { return m.before + m.post.Posted() }

// enter, and then go on.
func (m *member) enter(then func()) {
	m.gear.Run(count.Enter(m.crowd.arena, m.own), then)
}

// leave: nothing is held any more, the list is swept, and then nobody counts it.
func (m *member) leave(then func()) {
	w := m.crowd
	m.gear.Run(hold.NewClear(w.arena, m.own), func() {
		m.gear.Run(attic.NewSweep(w.arena, w.attic, m.own.Slot, 1000), func() {
			g, _, _ := segmentOf(m.own.Slot)
			m.gear.Run(count.Exit(w.arena, m.own, 0, g+1), then)
		})
	})
}

// postAll that the head tells. When it isn't the head any more, it begins anew.
func (m *member) postAll() {
	w := m.crowd
	g := hold.NewGrip(w.arena, m.own)
	m.gear.Run(g, func() {
		if g.Out() != api.Won {
			m.postAll()
			return
		}
		top := fields.Top(g.Root())
		m.before = m.passed()
		m.post = New(w.arena, w.attic, m.own, top)
		m.gear.Run(m.post, func() {
			w.isPosted(top)
			m.then(g.Root())
		})
	})
}

// replace the head by one with entries for these slots, each of a Seq above what it was told; what it loses comes into the attic, or, if it comes too late, what it laid is freed.
func (m *member) replace(root uint64, slots []int, then func()) {
	w := m.crowd
	var told []api.Addr
	for _, slot := range slots {
		told = append(told, wordIn(placeIn(w.segs, slot), api.Told))
	}
	reads := pace.NewReads(w.arena, told...)
	m.gear.Run(reads, func() {
		var says []say
		for i, n := range reads.Words() {
			says = append(says, say{slots[i], n>>32 + 1, uint64(i)})
		}
		m.layEntries(says, nil, func(l []uint64) { m.put(root, says, l, then) })
	})
}

// layEntries from the last one back to the first one.
func (m *member) layEntries(says []say, l []uint64, then func(l []uint64)) {
	i := len(says) - 1 - len(l)
	if i < 0 {
		then(l)
		return
	}
	m.gear.To(func() {
		h := m.crowd.lay(m.crowd.t, uint64(says[i].slot), says[i].note(), first(l))
		m.layEntries(says, append([]uint64{h}, l...), then)
	})
}

func first(l []uint64) uint64 { return append(slices.Clone(l), 0)[0] }

// put a head with these entries into the place of the root's.
func (m *member) put(root uint64, says []say, l []uint64, then func()) {
	w := m.crowd
	m.gear.To(func() {
		top := w.lay(w.t, first(l), 0, 0, 0, 0, 0, 0, 0)
		m.gear.To(func() {
			fresh, _ := fields.Root(top, 0)
			if did, _ := w.arena.Swap(api.Addr{}, root, fresh); !did {
				m.gear.Run(pace.NewFrees(w.arena, append(l, top)...), then)
				return
			}
			for i, h := range l {
				w.says[h] = says[i]
			}
			w.of[top] = l
			w.attic.Put(m.own.Slot, fields.Top(root))
			m.gear.Run(attic.NewSweep(w.arena, w.attic, m.own.Slot, 2*len(l)+2), then)
		})
	})
}

// goOn for ever: where all is posted, another head comes, or nothing is held any more; or it leaves, and comes again.
func goOn(m *member, r *rand.Rand) {
	w := m.crowd
	m.then = func(root uint64) {
		switch r.Intn(6) {
		case 0, 1, 2:
			m.replace(root, r.Perm(len(w.members))[:r.Intn(len(w.members)+1)], m.postAll)
		case 3:
			m.gear.Run(hold.NewClear(w.arena, m.own), m.postAll)
		case 4:
			m.leave(func() { m.enter(m.postAll) })
		default:
			m.postAll()
		}
	}
	m.enter(m.postAll)
}

// Whoever is picked, and whoever stops for ever. The seed is fixed, so that each run sees the same.
func TestDrawnSchedulesP16_2(t *testing.T) {
	r := rand.New(rand.NewSource(2))
	for members := 1; members <= 7; members++ {
		posts, passed, freed := 0, 0, 0
		for range 10 {
			w := newCrowd(t, members)
			for _, m := range w.members {
				goOn(m, r)
			}
			stopped := 0
			for range 1500 {
				if stopped < members-1 && r.Intn(1000) == 0 {
					stopped++
				}
				// Some are picked often in a row, so that much becomes of them while the others stand still.
				m := w.members[stopped+r.Intn(members-stopped)]
				for range 1 + r.Intn(4)*r.Intn(20) {
					w.pick(m)
				}
			}
			posts, passed, freed = posts+w.posts, passed+w.passed, freed+w.arena.Tally().Frees
		}
		if posts < 3000 || passed < 2000 || freed < 2000 {
			t.Fatalf("%d members: %d posts, %d passed, %d freed", members, posts, passed, freed)
		}
	}
}

// What one holds who has stopped with an entry stays; what it would have posted is posted by others.
func TestStopsP16_2(t *testing.T) {
	for at := range 32 {
		w := newCrowd(t, 2)
		x, y := w.members[0], w.members[1]
		blocks := w.arena.Len()
		y.then = func(root uint64) { y.replace(root, []int{0, 1}, y.gear.End) }
		y.enter(y.postAll)
		w.finish(y)
		x.then = func(uint64) { x.gear.End() }
		x.enter(x.postAll)
		for range at {
			w.pick(x)
		}
		rounds := 0
		y.then = func(root uint64) {
			rounds++
			if rounds == 1 {
				y.replace(root, nil, y.postAll)
				return
			}
			y.leave(y.gear.End)
		}
		y.postAll()
		w.finish(y)
		// The head that it gripped, and the entry that it holds: at most, beside what it has put away itself.
		if len(w.attic.List(1)) > 2 || w.arena.Len() != blocks+w.attic.Len() {
			t.Fatalf("stopped behind %d steps: %v are left, in %d blocks", at, w.attic.All(), w.arena.Len())
		}
		for slot := range 2 {
			isTold(t, w.room, placeIn(w.segs, slot), 1, uint64(slot))
		}
		// It goes on nevertheless, and comes to nothing that is gone.
		w.finish(x)
	}
}

// finish what a member does.
func (w *crowd) finish(m *member) {
	w.t.Helper()
	for n := 0; !m.gear.Done(); n++ {
		if n > 2000 {
			w.t.Fatalf("slot %d is never done", m.own.Slot)
		}
		w.pick(m)
	}
}
