package post

import (
	"math"
	"math/rand"
	"slices"
	"testing"

	"roundelay/api"
	"roundelay/arena"
	"roundelay/attic"
	"roundelay/pace"
)

var _ pace.Machine = &Post{}

const (
	mostBody = 1<<32 - 1
	mostWord = math.MaxUint64
)

// isTold: what stands in a slot's word Told?
func isTold(t *testing.T, r room, own api.Place, seq, body uint64) {
	t.Helper()
	if w := r.told(own); w != (say{seq: seq, body: body}).note() {
		t.Fatalf("the slot %d is told %d, %d, want %d, %d", own.Slot, w>>32, w&mostBody, seq, body)
	}
}

// A head without entries: one read, and nothing else.
func TestNoEntriesP16_1(t *testing.T) {
	r, segs := newRoom(t, 2)
	top, _ := r.entries(t)
	was, like := r.arena.Tally(), r.clone()
	p := New(r.arena, r.attic, placeIn(segs, 1), top)
	if p.Done() || p.Posted() != 0 {
		t.Fatalf("done %t, %d posted", p.Done(), p.Posted())
	}
	for range 3 {
		p.Step()
		was.Reads = like.arena.Tally().Reads + 1
		if !p.Done() || p.Posted() != 0 || r.arena.Tally() != was || !arena.Same(r.arena, like.arena) || r.attic.Len() != 0 || r.arena.Faults() != 0 {
			t.Fatalf("done %t, %d posted, %v", p.Done(), p.Posted(), r.arena.Tally())
		}
	}
	if n, posted := follow(t, r, placeIn(segs, 1), top, alone); n != 1 || posted != 0 {
		t.Fatalf("%d steps, %d posted", n, posted)
	}
}

// One entry, access by access.
func TestOneEntryP16_1(t *testing.T) {
	r, segs := newRoom(t, 3)
	own, other := placeIn(segs, 2), placeIn(segs, 4)
	r.tell(other, 6, 9)
	r.tell(own, 1, 8)
	top, l := r.entries(t, say{4, 7, 5})
	held := r.word(own, api.HoldB)
	p := New(r.arena, r.attic, own, top)
	tally := r.arena.Tally()
	// What each step is: r a read, w a write, s a swap.
	for i, access := range "rwrrrrrrssr" {
		if p.Done() {
			t.Fatalf("done behind %d steps", i)
		}
		p.Step()
		switch access {
		case 'r':
			tally.Reads++
		case 'w':
			tally.Writes++
		case 's':
			tally.Swaps++
		}
		if r.arena.Tally() != tally {
			t.Fatalf("behind the step %d: %v, want %v", i+1, r.arena.Tally(), tally)
		}
		looks := r.clone()
		if b := looks.word(own, api.HoldB); (b == l[0]) != (i >= 1) || b != l[0] && b != held {
			t.Fatalf("behind the step %d it holds %d", i+1, b)
		}
		seq, body := uint64(6), uint64(9)
		if i >= 8 {
			seq, body = 7, 5
		}
		isTold(t, looks, other, seq, body)
		want := l
		if i < 9 {
			want = nil
		}
		if c := looks.cursor(top); (c == l[0]) == (i >= 9) || !slices.Equal(r.attic.All(), want) || p.Posted() != len(want) {
			t.Fatalf("behind the step %d: the cursor is %d, %v are in the attic, %d posted", i+1, c, r.attic.All(), p.Posted())
		}
	}
	if !p.Done() || r.arena.Faults() != 0 || !slices.Equal(r.attic.List(2), l) || r.cursor(top) != 0 {
		t.Fatalf("done %t, %d faults, %v", p.Done(), r.arena.Faults(), r.attic.List(2))
	}
	// The slot that posts isn't told anything by an entry for another one.
	isTold(t, r, own, 1, 8)
}

// Only the head's word 0, HoldB of the slot that posts, and Told are changed; no block is laid or freed.
func TestNothingElseP16_1(t *testing.T) {
	r, segs := newRoom(t, 3)
	own := placeIn(segs, 3)
	top, l := r.entries(t, say{0, 1, 2}, say{3, 4, 5}, say{6, 7, 8})
	want := r.clone()
	follow(t, r, own, top, alone)
	want.arena.Write(wordIn(own, api.HoldB), l[2])
	want.tell(placeIn(segs, 0), 1, 2)
	want.tell(own, 4, 5)
	want.tell(placeIn(segs, 6), 7, 8)
	want.arena.Write(api.Addr{Block: top}, 0)
	if !arena.Same(r.arena, want.arena) || !slices.Equal(r.attic.List(3), l) || r.attic.Len() != 3 || r.attic.Noted() != 0 {
		t.Fatalf("%v", r.attic.All())
	}
}

// Each slot may post, and be told.
func TestEachSlotP16_1(t *testing.T) {
	for slot := range 255 {
		r, segs := newRoom(t, 8)
		own, other := placeIn(segs, slot), placeIn(segs, 254-slot)
		top, l := r.entries(t, say{254 - slot, 3, uint64(slot)}, say{slot, 4, 1})
		n, posted := follow(t, r, own, top, alone)
		if n != 21 || posted != 2 || r.arena.Faults() != 0 || !slices.Equal(r.attic.List(slot), l) || r.attic.Len() != 2 {
			t.Fatalf("slot %d: %d steps, %d posted, %v", slot, n, posted, r.attic.All())
		}
		isTold(t, r, own, 4, 1)
		if own != other {
			isTold(t, r, other, 3, uint64(slot))
		}
		if h := r.word(own, api.HoldB); h != l[1] {
			t.Fatalf("slot %d holds %d", slot, h)
		}
	}
}

// A note is told where Told's Seq is below its, whatever both bodies are; else it takes one access less.
func TestSeqsP16_1(t *testing.T) {
	seqs := []uint64{0, 1, 2, 1 << 16, 1<<31 - 1, 1 << 31, api.MostSeq - 1, api.MostSeq}
	bodies := []uint64{0, 1, 1 << 28, 5 << 28, 1 << 31, mostBody - 1, mostBody}
	for _, was := range seqs {
		for _, seq := range seqs {
			for i, body := range bodies {
				r, segs := newRoom(t, 1)
				own := placeIn(segs, 0)
				old := bodies[(i+int(seq))%len(bodies)]
				r.tell(own, was, old)
				top, l := r.entries(t, say{0, seq, body})
				n, posted := follow(t, r, own, top, alone)
				if posted != 1 || !slices.Equal(r.attic.All(), l) {
					t.Fatalf("%d, %d: %d posted, %v", was, seq, posted, r.attic.All())
				}
				if was < seq {
					isTold(t, r, own, seq, body)
				} else {
					isTold(t, r, own, was, old)
				}
				if (n == 11) != (was < seq) || n < 10 || n > 11 {
					t.Fatalf("%d, %d: %d steps", was, seq, n)
				}
			}
		}
	}
}

// Many entries, one behind the other; several may be for one slot, of which the greatest Seq stays.
func TestManyEntriesP16_1(t *testing.T) {
	r, segs := newRoom(t, 5)
	var says []say
	for i := range 255 {
		says = append(says, say{i % 31, uint64(i*7%13 + 1), uint64(i)})
	}
	top, l := r.entries(t, says...)
	steps, told := 1, map[int]say{}
	for _, s := range says {
		steps += 9
		if told[s.slot].seq < s.seq {
			steps++
			told[s.slot] = s
		}
	}
	n, posted := follow(t, r, placeIn(segs, 30), top, alone)
	if n != steps || posted != 255 || !slices.Equal(r.attic.List(30), l) || r.arena.Faults() != 0 {
		t.Fatalf("%d steps, want %d; %d posted", n, steps, posted)
	}
	for slot, s := range told {
		isTold(t, r, placeIn(segs, slot), s.seq, s.body)
	}
	// All is posted already: one read is left.
	if n, posted = follow(t, r, placeIn(segs, 29), top, alone); n != 1 || posted != 0 {
		t.Fatalf("%d steps, %d posted", n, posted)
	}
}

// What has come into the attic stands behind what the list has already.
func TestBehindTheListP16_1(t *testing.T) {
	r, segs := newRoom(t, 2)
	top, l := r.entries(t, say{0, 1, 1}, say{1, 1, 1})
	r.attic.Put(1, 7, l[1])
	r.attic.Put(0, 8)
	r.attic.Put(2, 9)
	follow(t, r, placeIn(segs, 1), top, alone)
	if !slices.Equal(r.attic.All(), []uint64{8, 7, l[1], l[0], l[1], 9}) {
		t.Fatalf("%v", r.attic.All())
	}
}

// Another one passes the entry between the two reads of the cursor: it isn't read, and all begins anew with the next one, or ends.
func TestCursorMovesP16_1(t *testing.T) {
	for _, number := range []int{2, 3} {
		for left := range 3 {
			r, segs := newRoom(t, 2)
			top, l := r.entries(t, say{1, 1, 1}, say{2, 2, 2}, say{2, 3, 3})
			to := append(l[3-left:], 0)[0]
			n, posted := follow(t, r, placeIn(segs, 0), top, ahead(number, func(x room) {
				x.arena.Write(api.Addr{Block: top}, to)
			}))
			if n != 3+10*left+1 || posted != left || r.attic.Len() != left {
				t.Fatalf("%d left: %d steps, %d posted", left, n, posted)
			}
			if r.told(placeIn(segs, 1)) != 0 {
				t.Fatal("it was told what is posted already")
			}
		}
	}
}

// Another one passes the entry later: it is posted all the same, but doesn't come into the attic by this one.
func TestPassedMeanwhileP16_1(t *testing.T) {
	for _, number := range []int{4, 5, 6, 7} {
		r, segs := newRoom(t, 2)
		top, l := r.entries(t, say{1, 1, 1}, say{2, 2, 2})
		n, posted := follow(t, r, placeIn(segs, 0), top, ahead(number, func(x room) {
			x.arena.Write(api.Addr{Block: top}, l[1])
		}))
		if n != 21 || posted != 1 || !slices.Equal(r.attic.All(), l[1:]) {
			t.Fatalf("at %d: %d steps, %d posted, %v", number, n, posted, r.attic.All())
		}
		isTold(t, r, placeIn(segs, 1), 1, 1)
		isTold(t, r, placeIn(segs, 2), 2, 2)
	}
	// It comes to all of the rest: this one finds nothing more.
	r, segs := newRoom(t, 2)
	top, _ := r.entries(t, say{1, 1, 1}, say{2, 2, 2})
	n, posted := follow(t, r, placeIn(segs, 0), top, ahead(7, func(x room) {
		toEnd(t, New(x.arena, x.attic, placeIn(segs, 1), top))
	}))
	if n != 11 || posted != 0 || len(r.attic.List(0)) != 0 || len(r.attic.List(1)) != 2 {
		t.Fatalf("%d steps, %d posted, %v", n, posted, r.attic.All())
	}
}

// Told changes between its read and its swap: then it stays as it is now, and the entry is passed.
func TestToldMeanwhileP16_1(t *testing.T) {
	for _, now := range []say{{1, 7, 5}, {1, 7, 6}, {1, 8, 5}, {1, 4, 0}, {1, 3, 0}, {1, 3, 1}} {
		r, segs := newRoom(t, 2)
		own := placeIn(segs, 1)
		r.tell(own, 3, 0)
		top, l := r.entries(t, say{1, 7, 5})
		n, posted := follow(t, r, own, top, func(n, number int) change {
			if n != 8 {
				return nil
			}
			return func(x room) { x.tell(own, now.seq, now.body) }
		})
		if n != 11 || posted != 1 || !slices.Equal(r.attic.All(), l) {
			t.Fatalf("%v: %d steps, %d posted", now, n, posted)
		}
		if now.seq == 3 && now.body == 0 {
			now = say{1, 7, 5}
		}
		isTold(t, r, own, now.seq, now.body)
	}
}

// The slot that is told lies where the fixed word says when it is read, be the segment of the one that posts another block by then.
func TestSegmentByFixedWordP16_1(t *testing.T) {
	r, segs := newRoom(t, 2)
	own := placeIn(segs, 1)
	fresh := r.lay(t, make([]uint64, 14)...)
	top, _ := r.entries(t, say{1, 1, 5}, say{2, 1, 6})
	follow(t, r, own, top, ahead(5, func(x room) {
		x.arena.Write(api.Addr{At: 2}, fresh)
	}))
	if r.told(own) != 0 || r.told(placeIn(segs, 2)) != 0 {
		t.Fatal("the old block's slots were told")
	}
	isTold(t, r, api.Place{Seg: fresh, Slot: 1}, 1, 5)
	isTold(t, r, api.Place{Seg: fresh, Slot: 2}, 1, 6)
	if r.word(api.Place{Seg: fresh, Slot: 1}, api.HoldB) != 0 || r.word(own, api.HoldB) == 0 {
		t.Fatal("it holds by another place than its own")
	}
}

// Whatever others do between two steps. The seed is fixed, so that each run sees the same.
func TestOthersP16_1(t *testing.T) {
	rnd := rand.New(rand.NewSource(1))
	for range 4000 {
		r, segs := newRoom(t, 1+rnd.Intn(3))
		slots := 1<<len(segs) - 1
		says := make([]say, rnd.Intn(6))
		for i := range says {
			says[i] = say{rnd.Intn(slots), uint64(rnd.Intn(5)), rnd.Uint64() & mostBody}
		}
		top, l := r.entries(t, says...)
		for slot := range slots {
			r.tell(placeIn(segs, slot), uint64(rnd.Intn(3)), uint64(slot))
		}
		often := 1 + rnd.Intn(6)
		follow(t, r, placeIn(segs, rnd.Intn(slots)), top, func(n, _ int) change {
			if n > 60 || rnd.Intn(often) != 0 {
				return nil
			}
			return drawn(rnd, segs, top, l)
		})
	}
}

// drawn is what somebody else may do; what leads from one entry to the other leads on, never back.
func drawn(rnd *rand.Rand, segs []uint64, top uint64, l []uint64) change {
	other := placeIn(segs, rnd.Intn(1<<len(segs)-1))
	word := rnd.Uint64()
	i := 0
	if len(l) > 0 {
		i = rnd.Intn(len(l))
	}
	rest := append(slices.Clone(l), 0)[i:]
	far := rest[rnd.Intn(len(rest))]
	return []change{
		func(x room) { x.arena.Write(api.Addr{Block: top}, far) },
		func(x room) { New(x.arena, x.attic, other, top).Step() },
		func(x room) { x.tell(other, word%5, word>>40) },
		func(x room) { x.tell(other, x.told(other)>>32+word%2, word>>40) },
		func(x room) { x.arena.Write(wordIn(other, api.HoldB), word) },
		func(x room) { x.arena.Write(api.Addr{Block: rest[0], At: 1}, word%5<<32|word>>32) },
		func(x room) { x.arena.Write(api.Addr{Block: rest[0]}, word%uint64(1<<len(segs)-1)) },
		func(x room) { x.attic.Put(other.Slot, word) },
		func(x room) { x.attic.Take(other.Slot, rest[0]) },
		func(x room) { finish(New(x.arena, x.attic, other, top)) },
	}[rnd.Intn(10)]
}

// A machine that is nil does nothing, and is done.
func TestNilP16_1(t *testing.T) {
	var p *Post
	p.Step()
	if !p.Done() || p.Posted() != 0 {
		t.Fatalf("done %t, %d posted", p.Done(), p.Posted())
	}
}

// Of a head that is gone, or never was, word 0 counts as 0: the end.
func TestNoHeadP16_1(t *testing.T) {
	r, segs := newRoom(t, 1)
	gone := r.lay(t, 5, 5, 5)
	r.arena.Free(gone)
	r.lay(t, 6, 6, 6)
	for i, h := range []uint64{gone, 5, mostWord} {
		if n, posted := follow(t, r, placeIn(segs, 0), h, alone); n != 1 || posted != 0 {
			t.Fatalf("%d: %d steps, %d posted", h, n, posted)
		}
		if r.arena.Faults() != i+1 {
			t.Fatalf("%d faults", r.arena.Faults())
		}
	}
}

// Wrong inputs: it does no more than it is told, ends, and never writes a fixed word.
func TestWrongInputsP16_1(t *testing.T) {
	places := []api.Place{{}, {Slot: -1}, {Slot: 255}, {Seg: 5, Slot: 0}, {Seg: mostWord, Slot: math.MaxInt}, {Slot: math.MinInt}}
	for _, words := range [][]uint64{{255, 1 << 32}, {mostWord, mostWord}, {1 << 63, 1 << 32}, {7, 1 << 32}, {0}, {}} {
		for i := range len(places) + 1 {
			r, segs := newRoom(t, 2)
			own := placeIn(segs, 1)
			if i < len(places) {
				own = places[i]
				own.Seg = max(own.Seg, segs[0]*uint64(i%2))
			}
			// Words that are no entry's, one that is gone, and one that is too short.
			l := slices.Concat(words, []uint64{0, 0, 0})[:3]
			x := r.lay(t, l...)
			y := r.lay(t, append(words, 9)[:1]...)
			gone := r.lay(t, 1)
			r.arena.Free(gone)
			for _, c := range []uint64{x, y, gone, 77, mostWord} {
				top := r.lay(t, c, 0, 0, 0, 0, 0, 0, 0)
				p := New(r.arena, r.attic, own, top)
				if n := toEnd(t, p); n > 11 {
					t.Fatalf("%d steps", n)
				}
			}
			if l := r.arena.Words(); !slices.Equal(l[:3], []uint64{4711, segs[0], segs[1]}) || slices.Max(l[3:]) != 0 {
				t.Fatalf("%v, %v: the fixed words are %v", words, own, l)
			}
		}
	}
}

// Two arenas, two attics: what goes on in the one isn't seen in the other one.
func TestApartP16_1(t *testing.T) {
	r, segs := newRoom(t, 2)
	top, l := r.entries(t, say{1, 1, 1}, say{2, 2, 2})
	like := r.clone()
	was := like.clone()
	p, q := New(r.arena, r.attic, placeIn(segs, 0), top), New(like.arena, like.attic, placeIn(segs, 2), top)
	for range 15 {
		p.Step()
	}
	isSame(t, like, was)
	if p.Posted() != 1 || q.Posted() != 0 || q.Done() {
		t.Fatalf("%d, %d posted", p.Posted(), q.Posted())
	}
	if n := toEnd(t, q); n != 21 || q.Posted() != 2 || p.Posted() != 1 || p.Done() {
		t.Fatalf("%d steps, %d posted", n, q.Posted())
	}
	if n := toEnd(t, p); n != 6 || !slices.Equal(r.attic.List(0), l) || !slices.Equal(like.attic.List(2), l) || len(like.attic.List(0)) != 0 {
		t.Fatalf("%d steps, %v, %v", n, r.attic.All(), like.attic.All())
	}
}

// Two heads may lead to entries that go on in one: each of them goes through all.
func TestTwoHeadsP16_1(t *testing.T) {
	r, segs := newRoom(t, 2)
	top, l := r.entries(t, say{1, 1, 1}, say{2, 2, 2})
	other := r.lay(t, l[1], 0, 0, 0, 0, 0, 0, 0)
	x := attic.New()
	toEnd(t, New(r.arena, x, placeIn(segs, 0), other))
	if r.cursor(top) != l[0] || r.told(placeIn(segs, 1)) != 0 || !slices.Equal(x.All(), l[1:]) {
		t.Fatalf("%v", x.All())
	}
	if n, posted := follow(t, r, placeIn(segs, 0), top, alone); n != 20 || posted != 2 {
		t.Fatalf("%d steps, %d posted", n, posted)
	}
}
