package attic

import (
	"math"
	"math/rand"
	"slices"
	"testing"

	"roundelay/api"
	"roundelay/arena"
	"roundelay/pace"
)

var _ pace.Machine = &Sweep{}

// noSlots are numbers of slots that there aren't.
var noSlots = []int{-1, -2, -254, -255, -256, math.MinInt32, math.MinInt, 255, 256, 257, 510, math.MaxInt32, math.MaxInt}

func TestNewP15_1(t *testing.T) {
	x, p := New(), &plain{}
	isLike(t, x, p)
	listsAreLike(t, x, p)
	for slot := range 255 {
		if x.Take(slot, 0) {
			t.Fatalf("slot %d: there was one", slot)
		}
	}
	if len(x.Log()) != 0 || len(x.All()) != 0 {
		t.Fatalf("%v, %v", x.Log(), x.All())
	}
	y := New()
	y.Put(0, 1)
	isLike(t, x, p)
}

func TestPutAndTakeP15_1(t *testing.T) {
	x := New()
	x.Put(3, 5, 6, 5, 7)
	x.Put(3)
	x.Put(0, 9)
	x.Put(254, 8, 8)
	x.Put(3, 6)
	for slot, want := range map[int][]uint64{0: {9}, 1: nil, 3: {5, 6, 5, 7, 6}, 253: nil, 254: {8, 8}} {
		if l := x.List(slot); !slices.Equal(l, want) {
			t.Fatalf("slot %d: %v, want %v", slot, l, want)
		}
	}
	if l := x.All(); x.Len() != 8 || !slices.Equal(l, []uint64{9, 5, 6, 5, 7, 6, 8, 8}) {
		t.Fatalf("%d, %v", x.Len(), l)
	}
	takes(t, x, 3, 5, true, 6, 5, 7, 6)
	takes(t, x, 3, 6, true, 5, 7, 6)
	takes(t, x, 3, 6, true, 5, 7)
	takes(t, x, 3, 6, false, 5, 7)
	takes(t, x, 3, 9, false, 5, 7)
	takes(t, x, 3, 8, false, 5, 7)
	takes(t, x, 3, 0, false, 5, 7)
	takes(t, x, 254, 8, true, 8)
	takes(t, x, 254, 8, true)
	takes(t, x, 254, 8, false)
	takes(t, x, 0, 9, true)
	takes(t, x, 3, 7, true, 5)
	takes(t, x, 3, 5, true)
	if x.Len() != 0 || len(x.All()) != 0 {
		t.Fatalf("%d, %v", x.Len(), x.All())
	}
}

// takes one out: was it there, and what is left?
func takes(t *testing.T, x *Attic, slot int, h uint64, was bool, left ...uint64) {
	t.Helper()
	n := x.Len()
	if was {
		n--
	}
	if x.Take(slot, h) != was || !slices.Equal(x.List(slot), left) || x.Len() != n {
		t.Fatalf("%d from the slot %d: want %t, %v; it has %v", h, slot, was, left, x.List(slot))
	}
}

// Of a slot that there isn't nothing is kept, and nothing of another one's list goes.
func TestNoSlotP15_1(t *testing.T) {
	x, p := New(), &plain{}
	for slot := range 255 {
		x.Put(slot, uint64(slot))
		p.put(slot, uint64(slot))
	}
	for _, slot := range noSlots {
		x.Put(slot, 1, 2, 3)
		for h := range uint64(256) {
			if x.Take(slot, h) {
				t.Fatalf("slot %d: there was %d", slot, h)
			}
		}
		if l := x.List(slot); len(l) != 0 {
			t.Fatalf("slot %d: %v", slot, l)
		}
	}
	isLike(t, x, p)
	listsAreLike(t, x, p)
}

// Any word may stand in a list: 0, too.
func TestAnyHandleP15_1(t *testing.T) {
	x := New()
	x.Put(1, 0, math.MaxUint64, 0, 65537)
	takes(t, x, 1, 0, true, math.MaxUint64, 0, 65537)
	takes(t, x, 1, math.MaxUint64, true, 0, 65537)
	takes(t, x, 1, math.MaxUint64, false, 0, 65537)
	takes(t, x, 1, 0, true, 65537)
}

func batchOf(i int) api.Batch {
	b := api.Batch{Head: uint64(i) << 16}
	for j := range i % 4 {
		b.L = append(b.L, api.Applied{Slot: i, Seq: uint64(j), Op: api.Op{Code: api.MapPut, Key: j, A: i, B: 1}, Resp: api.Resp{Kind: j % 5, Value: i}})
	}
	return b
}

func TestLogP15_1(t *testing.T) {
	x, p := New(), &plain{}
	for i := range 300 {
		// The log has each, be it of none, or alike to another one.
		b := batchOf(i % 7)
		x.Note(b)
		p.note(b)
		isLike(t, x, p)
	}
	x.Note(api.Batch{})
	p.note(api.Batch{})
	isLike(t, x, p)
	if l := x.Log(); x.Noted() != 301 || l[1].Head != 65536 || len(l[3].L) != 3 || l[3].L[2] != (api.Applied{Slot: 3, Seq: 2, Op: api.Op{Code: api.MapPut, Key: 2, A: 3, B: 1}, Resp: api.Resp{Kind: api.Full, Value: 3}}) {
		t.Fatalf("%d: %v", x.Noted(), l[:4])
	}
	if x.Len() != 0 {
		t.Fatalf("%d handles", x.Len())
	}
}

// Whatever is called, in whatever order, and of whichever clone: all that is told is the plain one's. The seed is fixed, so that each run sees the same.
func TestDrawnP15_1(t *testing.T) {
	r := rand.New(rand.NewSource(1))
	for range 60 {
		x, p := []*Attic{New()}, []*plain{{}}
		slots := []int{0, 1, 2, 127, 253, 254, -1, 255}
		for range 150 {
			i := r.Intn(len(x))
			slot := slots[r.Intn(len(slots))]
			switch r.Intn(9) {
			case 0, 1, 2:
				l := make([]uint64, r.Intn(5))
				for j := range l {
					l[j] = r.Uint64() % 6
				}
				x[i].Put(slot, l...)
				p[i].put(slot, l...)
			case 3, 4, 5, 6:
				h := r.Uint64() % 6
				if was, want := x[i].Take(slot, h), p[i].take(slot, h); was != want {
					t.Fatalf("%d of the slot %d: %t, want %t", h, slot, was, want)
				}
			case 7:
				b := batchOf(r.Intn(20))
				x[i].Note(b)
				p[i].note(b)
			case 8:
				if len(x) < 5 {
					x, p = append(x, x[i].Clone()), append(p, p[i].clone())
				}
			}
			for j := range x {
				isLike(t, x[j], p[j])
			}
		}
		for j := range x {
			listsAreLike(t, x[j], p[j])
		}
	}
}

// There is room for all, in each list, and in the log.
func TestRoomP15_1(t *testing.T) {
	x := New()
	var l []uint64
	for i := range 70000 {
		l = append(l, uint64(i))
	}
	x.Put(7, l...)
	for i := range 70000 {
		x.Put(254, uint64(i))
		x.Note(api.Batch{Head: uint64(i)})
	}
	if x.Len() != 140000 || !slices.Equal(x.All(), slices.Concat(l, l)) || !slices.Equal(x.List(254), l) || x.Noted() != 70000 {
		t.Fatalf("%d handles, %d batches", x.Len(), x.Noted())
	}
	for i, b := range x.Log() {
		if b.Head != uint64(i) {
			t.Fatalf("%d: %d", i, b.Head)
		}
	}
}

// What is handed in isn't kept, nor changed; what comes out is new, its spare room too.
func TestNewMemoryP15_1(t *testing.T) {
	x, p := New(), &plain{}
	for i := range 40 {
		in := make([]uint64, 3, 10)
		copy(in, []uint64{1, uint64(i), 3})
		x.Put(2, in...)
		p.put(2, in...)
		spoil(in)
		b := batchOf(i)
		b.L = slices.Grow(b.L, 9)
		x.Note(b)
		p.note(b)
		spoilOperations(b.L)
		spoil(x.List(2))
		spoil(x.All())
		spoilLog(x.Log())
		isLike(t, x, p)
	}
	list, all, log := x.List(2), x.All(), x.Log()
	wantList, wantAll, wantLog := slices.Clone(list), slices.Clone(all), p.clone().log
	c := x.Clone()
	for _, y := range []*Attic{x, c} {
		y.Take(2, 1)
		y.Put(2, 77, 78)
		y.Put(3, 79)
		y.Note(batchOf(9))
	}
	if !slices.Equal(list, wantList) || !slices.Equal(all, wantAll) || !sameLogs(log, wantLog) {
		t.Fatal("an answer has changed")
	}
}

// spoil a list, and its spare room.
func spoil(l []uint64) {
	l = l[:cap(l)]
	for i := range l {
		l[i] = 4711
	}
}

func spoilOperations(l []api.Applied) {
	l = l[:cap(l)]
	for i := range l {
		l[i] = api.Applied{Slot: 4711}
	}
}

func spoilLog(l []api.Batch) {
	for _, b := range l {
		spoilOperations(b.L)
	}
	l = l[:cap(l)]
	for i := range l {
		l[i] = api.Batch{Head: 4711}
	}
}

// No two lists of one log share memory.
func TestLogApartP15_1(t *testing.T) {
	x, p := New(), &plain{}
	same := batchOf(3)
	for range 5 {
		x.Note(same)
		p.note(same)
	}
	l := x.Log()
	spoilOperations(l[2].L)
	l[2] = p.log[2]
	if !sameLogs(l, p.log) {
		t.Fatalf("%v", l)
	}
}

// A clone and what it was made of go on apart: both put where each other's spare room would be.
func TestCloneP15_1(t *testing.T) {
	for n := range 20 {
		x, p := New(), &plain{}
		for i := range n {
			x.Put(5, uint64(i))
			p.put(5, uint64(i))
			x.Note(batchOf(i))
			p.note(batchOf(i))
		}
		y, q := x.Clone(), p.clone()
		isLike(t, y, q)
		listsAreLike(t, y, q)
		x.Put(5, 100)
		p.put(5, 100)
		x.Note(batchOf(100))
		p.note(batchOf(100))
		y.Put(5, 200)
		q.put(5, 200)
		y.Note(batchOf(50))
		q.note(batchOf(50))
		isLike(t, x, p)
		isLike(t, y, q)
		if x.Take(5, 0) != p.take(5, 0) || y.Take(5, 1) != q.take(5, 1) {
			t.Fatal("taken otherwise")
		}
		y.Put(254, 1)
		q.put(254, 1)
		spoilLog(y.Log())
		isLike(t, x, p)
		isLike(t, y, q)
		listsAreLike(t, x, p)
	}
}

func TestNilP15_1(t *testing.T) {
	var x *Attic
	for _, slot := range append([]int{0, 1, 254}, noSlots...) {
		x.Put(slot, 1, 2)
		if x.Take(slot, 1) || x.Take(slot, 0) || len(x.List(slot)) != 0 {
			t.Fatalf("slot %d", slot)
		}
	}
	x.Note(batchOf(3))
	if x.Len() != 0 || len(x.All()) != 0 || x.Noted() != 0 || len(x.Log()) != 0 || x.Clone() != nil {
		t.Fatalf("%d, %v, %d, %v", x.Len(), x.All(), x.Noted(), x.Log())
	}
}

// A list of two, one of them held: the other one is freed.
func TestSweepP15_2(t *testing.T) {
	r, segs := newRoom(t, 1)
	own := placeIn(segs, 0)
	l := r.lay(t, 2)
	countBy(r.arena, own, 1)
	r.hold(own, 0, l[0])
	r.attic.Put(4, l...)
	was := r.arena.Tally()
	s := NewSweep(r.arena, r.attic, 4, 9)
	// The fixed word 1, the counter of the node 1, the fixed word 2, HoldA, HoldB: five reads ahead of the Free.
	for i := range 5 {
		if s.Done() || r.arena.Tally().Reads != was.Reads+i || r.attic.Len() != 2 {
			t.Fatalf("behind %d steps: %v", i, r.arena.Tally())
		}
		s.Step()
	}
	if s.Done() || r.arena.Tally().Frees != 0 || r.attic.Len() != 2 {
		t.Fatalf("%v", r.arena.Tally())
	}
	s.Step()
	was.Reads, was.Frees = was.Reads+5, 1
	if !s.Done() || r.arena.Tally() != was || !slices.Equal(r.attic.List(4), l[:1]) || !r.lives(l[0]) || r.lives(l[1]) {
		t.Fatalf("done %t, %v, %v", s.Done(), r.arena.Tally(), r.attic.List(4))
	}
	s.Step()
	if r.arena.Tally() != was || r.arena.Faults() != 0 {
		t.Fatalf("%v", r.arena.Tally())
	}
}

// Of an empty list, and of a slot that there isn't, a sweep does nothing at all.
func TestSweepNothingP15_2(t *testing.T) {
	r, segs := newRoom(t, 2)
	countBy(r.arena, placeIn(segs, 1), 1)
	r.attic.Put(7, r.lay(t, 3)...)
	for _, slot := range append([]int{0, 6, 8, 254}, noSlots...) {
		for _, most := range []int{math.MinInt, -1, 0, 1, 9, math.MaxInt} {
			if n := follow(t, r, slot, most); n != 0 {
				t.Fatalf("slot %d: %d steps", slot, n)
			}
		}
	}
	if r.attic.Len() != 3 {
		t.Fatalf("%v", r.attic.All())
	}
	// What is put only behind its making is none of its own.
	s := NewSweep(r.arena, r.attic, 0, 9)
	r.attic.Put(0, r.lay(t, 1)...)
	s.Step()
	if !s.Done() || r.attic.Len() != 4 {
		t.Fatalf("%v", r.attic.All())
	}
}

// Each slot's list is swept, each slot's holds are looked at, both of them.
func TestEachSlotP15_2(t *testing.T) {
	for slot := range 255 {
		r, segs := newRoom(t, 8)
		own := placeIn(segs, slot)
		l := r.lay(t, 4)
		r.attic.Put(254-slot, l...)
		r.attic.Put((255-slot)%255, 5)
		countBy(r.arena, own, 1)
		x, y := slot%4, (slot+1+slot/4%3)%4
		r.hold(own, l[x], l[y])
		g, _, _ := segmentOf(slot)
		// A fixed word for each segment, a counter for each topmost node, and two for each other node of the path (the node, and the one beside it); two holds, and two that nobody holds.
		if n := follow(t, r, 254-slot, 9); n != 8+8+2*g+2+2 {
			t.Fatalf("slot %d: %d steps", slot, n)
		}
		for i, h := range l {
			if r.lives(h) != (i == x || i == y) {
				t.Fatalf("slot %d: %v, the %d lives: %t", slot, l, h, r.lives(h))
			}
		}
		if r.arena.Faults() != 0 {
			t.Fatalf("slot %d: %d faults", slot, r.arena.Faults())
		}
	}
}

// At most so many: the first ones that nobody holds, and, where most is below 1, none, though all is read.
func TestMostP15_2(t *testing.T) {
	for _, most := range []int{math.MinInt, -7, -1, 0, 1, 2, 3, 4, 5, 6, 7, 8, 100, math.MaxInt} {
		r, segs := newRoom(t, 2)
		l := r.lay(t, 8)
		r.attic.Put(1, l...)
		for slot := range 3 {
			countBy(r.arena, placeIn(segs, slot), 1)
		}
		r.hold(placeIn(segs, 2), l[0], l[3])
		r.hold(placeIn(segs, 0), 7, l[3])
		freed := min(max(most, 0), 6)
		if n := follow(t, r, 1, most); n != 13+freed {
			t.Fatalf("most %d: %d steps", most, n)
		}
		free := []uint64{l[1], l[2], l[4], l[5], l[6], l[7]}
		for i, h := range free {
			if r.lives(h) != (i >= freed) {
				t.Fatalf("most %d: the %d lives: %t", most, i, r.lives(h))
			}
		}
		want := slices.DeleteFunc(slices.Clone(l), func(h uint64) bool { return slices.Contains(free[:freed], h) })
		if !slices.Equal(r.attic.List(1), want) {
			t.Fatalf("most %d: %v, want %v", most, r.attic.List(1), want)
		}
	}
}

// Who isn't counted isn't looked at, whatever stands in its words.
func TestNotCountedP15_2(t *testing.T) {
	for slot := range 15 {
		r, segs := newRoom(t, 4)
		l := r.lay(t, 2)
		r.attic.Put(1, l...)
		r.hold(placeIn(segs, slot), l[0], l[1])
		follow(t, r, 1, 9)
		if r.lives(l[0]) || r.lives(l[1]) || r.attic.Len() != 0 {
			t.Fatalf("slot %d: %v is left", slot, r.attic.All())
		}
	}
}

// A handle that stands in the list twice is freed twice: the second Free is a fault. So it is with one that is gone, or never was a handle: all of them leave the list. What else the list has, and other lists, stays.
func TestAlikeAndGoneP15_2(t *testing.T) {
	r, segs := newRoom(t, 1)
	l := r.lay(t, 3)
	r.arena.Free(l[2])
	fresh := r.lay(t, 1)
	r.attic.Put(1, l[0], l[1], l[0], l[2], 0, 5, l[0])
	r.attic.Put(2, l[0], l[2])
	countBy(r.arena, placeIn(segs, 0), 1)
	r.hold(placeIn(segs, 0), l[1], 9)
	if n := follow(t, r, 1, 5); n != 10 {
		t.Fatalf("%d steps", n)
	}
	if r.arena.Faults() != 4 || !slices.Equal(r.attic.List(1), []uint64{l[1], l[0]}) || !slices.Equal(r.attic.List(2), []uint64{l[0], l[2]}) || !r.lives(fresh[0]) {
		t.Fatalf("%d faults, %v", r.arena.Faults(), r.attic.All())
	}
	// A word HoldA or HoldB that is 0 is a word all the same: so the 0 in a list stays.
	r.attic.Put(3, 0, 6)
	r.hold(placeIn(segs, 0), 0, 9)
	follow(t, r, 3, 5)
	if !slices.Equal(r.attic.List(3), []uint64{0}) {
		t.Fatalf("%v", r.attic.List(3))
	}
}

// What others do to the list meanwhile: what came into it later stays there; what was taken out is freed nevertheless; of several that are alike the first one goes.
func TestListMeanwhileP15_2(t *testing.T) {
	for at := range 9 {
		r, segs := newRoom(t, 1)
		l := r.lay(t, 6)
		countBy(r.arena, placeIn(segs, 0), 1)
		r.hold(placeIn(segs, 0), l[1], 0)
		r.attic.Put(1, l[:4]...)
		before := slices.Repeat([]change{nothing}, at)
		n := follow(t, r, 1, 2, append(before, func(x room) {
			x.attic.Put(1, l[4], l[0])
			x.attic.Take(1, l[2])
			x.attic.Put(0, l[5])
			x.attic.Put(2, l[0])
		})...)
		if n != 7 {
			t.Fatalf("%d steps", n)
		}
		if r.lives(l[0]) || !r.lives(l[1]) || r.lives(l[2]) || !r.lives(l[3]) || !r.lives(l[4]) || !r.lives(l[5]) {
			t.Fatalf("at %d: %v", at, r.attic.All())
		}
		want := []uint64{l[1], l[3], l[4], l[0]}
		if at > 6 {
			want = []uint64{l[1], l[3]}
		}
		if !slices.Equal(r.attic.List(1), want) {
			t.Fatalf("at %d: %v, want %v", at, r.attic.List(1), want)
		}
	}
	// Somebody else has swept all of it.
	r, _ := newRoom(t, 1)
	l := r.lay(t, 3)
	r.attic.Put(1, l...)
	n := follow(t, r, 1, 3, nothing, nothing, nothing, func(x room) { toEnd(t, NewSweep(x.arena, x.attic, 1, 3)) })
	if n != 6 || r.arena.Faults() != 3 || r.attic.Len() != 0 {
		t.Fatalf("%d steps, %d faults", n, r.arena.Faults())
	}
}

// Whatever others do between two steps: the words are read one by one, each as it is then.
func TestOthersP15_2(t *testing.T) {
	r := rand.New(rand.NewSource(2))
	for range 1500 {
		x, segs := newRoom(t, 1+r.Intn(4))
		n := 1<<len(segs) - 1
		l := x.lay(t, 6)
		for range r.Intn(12) {
			x.attic.Put(r.Intn(3), l[r.Intn(6)])
		}
		// Who is counted, and who isn't, changes by turns.
		for slot := range n {
			if r.Intn(2) == 0 {
				countBy(x.arena, placeIn(segs, slot), 1)
			}
			x.hold(placeIn(segs, slot), l[r.Intn(6)]*uint64(r.Intn(2)), l[r.Intn(6)]*uint64(r.Intn(2)))
		}
		var changes []change
		for range 25 {
			own, h := placeIn(segs, r.Intn(n)), l[r.Intn(6)]
			field, node := 3+r.Intn(2), counters(own)
			switch r.Intn(6) {
			case 0, 1:
				changes = append(changes, func(x room) { x.arena.Write(wordOf(own, field), h) })
			case 2:
				changes = append(changes, func(x room) { x.arena.Write(wordOf(own, field), 0) })
			case 3:
				by := uint64(r.Intn(3))
				which := node[r.Intn(len(node))]
				changes = append(changes, func(x room) { x.arena.Write(which, by) })
			case 4:
				slot := r.Intn(3)
				changes = append(changes, func(x room) { x.attic.Put(slot, h) })
			default:
				changes = append(changes, nothing)
			}
		}
		follow(t, x, r.Intn(3), r.Intn(8)-1, changes...)
	}
}

// A segment that comes meanwhile is found, if its fixed word is read later.
func TestNewSegmentP15_2(t *testing.T) {
	for at := range 9 {
		r, segs := newRoom(t, 1)
		countBy(r.arena, placeIn(segs, 0), 1)
		l := r.lay(t, 3)
		r.attic.Put(0, l...)
		words := make([]uint64, 14)
		words[3], words[4], words[8] = 0, l[0], l[1]
		words[11], words[12], words[13] = 2, 1, 1
		h, _ := r.arena.Lay(words...)
		before := slices.Repeat([]change{nothing}, at)
		follow(t, r, 0, 9, append(before, func(x room) { x.arena.Write(api.Addr{At: 2}, h) })...)
		if held := at < 3; r.lives(l[0]) != held || r.lives(l[1]) != held || r.lives(l[2]) {
			t.Fatalf("at %d: %v", at, r.attic.All())
		}
	}
}

// To make a sweep is no access; sweeps of one attic, and of its clone, go on apart.
func TestApartP15_2(t *testing.T) {
	r, segs := newRoom(t, 1)
	countBy(r.arena, placeIn(segs, 0), 1)
	l := r.lay(t, 4)
	r.attic.Put(0, l[:2]...)
	r.attic.Put(1, l[2:]...)
	was := r.clone()
	x, y := NewSweep(r.arena, r.attic, 0, 9), NewSweep(r.arena, r.attic, 1, 1)
	isSame(t, r, was)
	c := r.clone()
	z := NewSweep(c.arena, c.attic, 1, 9)
	for range 5 {
		x.Step()
		y.Step()
	}
	x.Step()
	if x.Done() || y.Done() || !slices.Equal(r.attic.All(), l[1:]) {
		t.Fatalf("%v", r.attic.All())
	}
	y.Step()
	if x.Done() || !y.Done() || !slices.Equal(r.attic.All(), []uint64{l[1], l[3]}) {
		t.Fatalf("%v", r.attic.All())
	}
	toEnd(t, z)
	if !slices.Equal(c.attic.All(), l[:2]) || !slices.Equal(r.attic.All(), []uint64{l[1], l[3]}) {
		t.Fatalf("%v, %v", c.attic.All(), r.attic.All())
	}
	x.Step()
	if !x.Done() || !slices.Equal(r.attic.All(), l[3:]) {
		t.Fatalf("%v", r.attic.All())
	}
}

// A whole list, longer than all that may be held.
func TestLongListP15_2(t *testing.T) {
	r, segs := newRoom(t, 8)
	l := r.lay(t, 1200)
	r.attic.Put(9, l...)
	for slot := range 255 {
		countBy(r.arena, placeIn(segs, slot), 1)
		r.hold(placeIn(segs, slot), l[2*slot], l[2*slot+500])
	}
	s := NewSweep(r.arena, r.attic, 9, 2000)
	n := toEnd(t, s)
	var want []uint64
	for i, h := range l {
		if i%2 == 0 && i < 500+510 {
			want = append(want, h)
		}
	}
	if n != 8+502+510+1200-len(want) || !slices.Equal(r.attic.List(9), want) || r.arena.Faults() != 0 {
		t.Fatalf("%d steps, %d are left, want %d", n, r.attic.Len(), len(want))
	}
}

// Another machine goes on by a sweep, and behind it.
func TestGearP15_2(t *testing.T) {
	r, _ := newRoom(t, 1)
	l := r.lay(t, 2)
	r.attic.Put(0, l[0])
	r.attic.Put(1, l[1])
	var g pace.Gear
	g.Run(NewSweep(r.arena, r.attic, 0, 1), func() {
		g.Run(NewSweep(r.arena, r.attic, 2, 1), func() {
			g.Run(NewSweep(r.arena, r.attic, 1, 1), g.End)
		})
	})
	if n := toEnd(t, &g); n != 4+4 || r.attic.Len() != 0 {
		t.Fatalf("%d steps, %v", n, r.attic.All())
	}
}

// A sweep of a nil attic is done at once, and so is a nil sweep.
func TestNilP15_2(t *testing.T) {
	r, segs := newRoom(t, 1)
	countBy(r.arena, placeIn(segs, 0), 1)
	was := r.arena.Tally()
	for _, slot := range append([]int{0, 254}, noSlots...) {
		for _, a := range []*arena.Arena{r.arena, nil} {
			s := NewSweep(a, nil, slot, 9)
			for range 3 {
				if !s.Done() {
					t.Fatalf("slot %d", slot)
				}
				s.Step()
			}
		}
	}
	var s *Sweep
	for range 3 {
		if !s.Done() {
			t.Fatal("not done")
		}
		s.Step()
	}
	if r.arena.Tally() != was || r.arena.Faults() != 0 {
		t.Fatalf("%v", r.arena.Tally())
	}
}

// Without an arena nothing is promised but an end, and no panic.
func TestNoArena(t *testing.T) {
	for _, most := range []int{-1, 0, 1, 9} {
		x := New()
		x.Put(0, 65537, 65537, 7)
		toEnd(t, NewSweep(nil, x, 0, most))
	}
}

// Nothing is promised where a fixed word is no segment's handle, but an end; and no word but those of blocks that are freed is changed.
func TestNoSegment(t *testing.T) {
	for _, seg := range []uint64{1, 7, math.MaxUint64} {
		r, segs := newRoom(t, 2)
		l := r.lay(t, 2)
		for g := range 8 {
			r.arena.Write(api.Addr{At: 1 + g}, seg)
		}
		r.attic.Put(0, l...)
		toEnd(t, NewSweep(r.arena, r.attic, 0, 1))
		if r.arena.Size(segs[0]) != 7 || r.arena.Size(segs[1]) != 14 || r.arena.Words()[8] != seg {
			t.Fatal("something else has changed")
		}
	}
}
