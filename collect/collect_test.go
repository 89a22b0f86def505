package collect

import (
	"math"
	"math/rand"
	"slices"
	"testing"

	"roundelay/api"
	"roundelay/arena"
	"roundelay/pace"
)

// a Collect is a machine.
var _ pace.Machine = &Collect{}

// finds just these slots in so many reads.
func finds(t *testing.T, a *arena.Arena, segs []uint64, reads int, slots ...int) {
	t.Helper()
	c, n := follow(t, a)
	if want := placesOf(segs, slots...); !slices.Equal(c.Places(), want) {
		t.Fatalf("%v, want %v", c.Places(), want)
	}
	if n != reads {
		t.Fatalf("%d reads, want %d", n, reads)
	}
}

// Nobody there: each segment's fixed word and its topmost counter, and the fixed word behind them, if there is one.
func TestNobodyP13_1(t *testing.T) {
	for segments, reads := range []int{1, 3, 5, 7, 9, 11, 13, 15, 16} {
		a, segs := newArena(t, segments)
		finds(t, a, segs, reads)
	}
}

func TestCapacity0P13_1(t *testing.T) {
	a, _ := arena.New(0)
	finds(t, a, nil, 1)
}

// The slot 5: the counters of the nodes 1, 2, 3, 6 and 7 of its segment are read; it is found with that of the node 6.
func TestSlot5P13_1(t *testing.T) {
	a, segs := newArena(t, 3)
	for _, at := range []int{26, 23, 21} {
		a.Write(api.Addr{Block: segs[2], At: at}, 1)
	}
	was := a.Tally().Reads
	c := New(a)
	for i := range 10 {
		want := moment{}
		if i >= 1 {
			want.segs[0] = segs[0]
		}
		if i >= 3 {
			want.segs[1] = segs[1]
		}
		if i >= 5 {
			want.segs[2] = segs[2]
		}
		if i >= 9 {
			want.places = []api.Place{{Seg: segs[2], Slot: 5}}
		}
		tells(t, c, false, want)
		c.Step()
	}
	tells(t, c, false, moment{[]api.Place{{Seg: segs[2], Slot: 5}}, [8]uint64{segs[0], segs[1], segs[2]}})
	c.Step()
	tells(t, c, true, moment{[]api.Place{{Seg: segs[2], Slot: 5}}, [8]uint64{segs[0], segs[1], segs[2]}})
	if a.Tally().Reads != was+11 || a.Faults() != 0 {
		t.Fatalf("%v, %d faults", a.Tally(), a.Faults())
	}
}

// The slot 0 is of a segment whose topmost node is its own.
func TestSlot0P13_1(t *testing.T) {
	a, segs := newArena(t, 1)
	enter(a, segs, 0)
	c := New(a)
	c.Step()
	tells(t, c, false, moment{nil, [8]uint64{segs[0]}})
	c.Step()
	tells(t, c, false, moment{[]api.Place{{Seg: segs[0], Slot: 0}}, [8]uint64{segs[0]}})
	c.Step()
	tells(t, c, true, moment{[]api.Place{{Seg: segs[0], Slot: 0}}, [8]uint64{segs[0]}})
}

// One alone is found, wherever it is: with 2 reads for each level below the topmost node more than if nobody were there.
func TestOneP13_1(t *testing.T) {
	for slot := range 255 {
		g, _, _ := segmentOf(slot)
		for segments := g + 1; segments <= 8; segments++ {
			a, segs := newArena(t, segments)
			enter(a, segs, slot)
			finds(t, a, segs, min(2*segments+1, 16)+2*g, slot)
		}
	}
}

// Whoever of the first 15 slots is there is found, in order.
func TestEachSetP13_1(t *testing.T) {
	for set := range 1 << 15 {
		a, segs := newArena(t, 4)
		var slots []int
		for slot := range 15 {
			if set>>slot&1 == 1 {
				slots = append(slots, slot)
			}
		}
		enter(a, segs, slots...)
		c := New(a)
		toEnd(t, c)
		if want := placesOf(segs, slots...); !slices.Equal(c.Places(), want) {
			t.Fatalf("%v, want %v", c.Places(), want)
		}
		if set%64 == 63 {
			follow(t, a)
		}
	}
}

// All there: each counter is read, and each fixed word of a segment.
func TestFullP13_1(t *testing.T) {
	a, segs := newArena(t, 8)
	var slots []int
	for slot := range 255 {
		slots = append(slots, slot)
	}
	enter(a, segs, slots...)
	finds(t, a, segs, 8+510-8, slots...)
}

// Sets that are drawn; the seed is fixed, so that each run sees the same. Nobody's place depends on how many times it was counted.
func TestDrawnSetsP13_1(t *testing.T) {
	r := rand.New(rand.NewSource(1))
	for _, most := range []int{1, 2, 5, 30, 200, 254} {
		for range 40 {
			a, segs := newArena(t, 8)
			slots := r.Perm(255)[:most]
			enter(a, segs, slots...)
			enter(a, segs, slots[:most/2]...)
			slices.Sort(slots)
			c, _ := follow(t, a)
			if want := placesOf(segs, slots...); !slices.Equal(c.Places(), want) {
				t.Fatalf("%v, want %v", c.Places(), want)
			}
		}
	}
}

// Any counters, be they of no path's: below one that is 0 nothing is found, and nothing below one that isn't may be there.
func TestDrawnCountersP13_1(t *testing.T) {
	r := rand.New(rand.NewSource(2))
	numbers := []uint64{1, 2, 255, 1 << 31, 1 << 32, 1 << 63, math.MaxInt64, math.MaxUint64}
	for round := range 2000 {
		a, segs := newArena(t, 1+r.Intn(8))
		for g, seg := range segs {
			for at := 5 << g; at < 7<<g; at++ {
				w := uint64(0)
				if r.Intn(12) > round%12 {
					w = numbers[r.Intn(len(numbers))]
				}
				a.Write(api.Addr{Block: seg, At: at}, w)
			}
		}
		follow(t, a)
	}
}

// A counter that isn't 0 is somebody's, however great it is.
func TestGreatCountersP13_1(t *testing.T) {
	for _, w := range []uint64{1, 2, 1 << 8, 1 << 16, 1 << 31, 1 << 32, 1 << 62, 1 << 63, math.MaxInt64, math.MaxUint64} {
		for _, slot := range []int{0, 2, 3, 254} {
			a, segs := newArena(t, 8)
			for _, x := range counters(segs, slot) {
				a.Write(x, w)
			}
			g, _, _ := segmentOf(slot)
			finds(t, a, segs, 16+2*g, slot)
		}
	}
}

// Somebody half in, or half out: a part of the path alone is counted.
func TestHalfP13_1(t *testing.T) {
	for slot := range 255 {
		path := len(counters(make([]uint64, 8), slot))
		for n := range path {
			a, segs := newArena(t, 8)
			l := counters(segs, slot)
			for _, x := range l[:n] {
				a.Add(x, 1)
			}
			finds(t, a, segs, 16)
			for _, x := range l[n:] {
				a.Add(x, 1)
			}
			for _, x := range l[:n+1] {
				a.Add(x, math.MaxUint64)
			}
			finds(t, a, segs, 16+2*(path-1-n))
		}
	}
}

// A fixed word that is 0 is the end, whatever stands in those behind it; and the root is no segment.
func TestGapP13_1(t *testing.T) {
	for gap := range 8 {
		a, segs := newArena(t, 8)
		enter(a, segs, 0, 1, 2, 6, 14, 30, 62, 126, 254)
		for g := gap; g < 8; g += 2 {
			a.Write(api.Addr{At: 1 + g}, 0)
		}
		a.Write(api.Addr{At: 0}, 0)
		c, _ := follow(t, a)
		for g := range 8 {
			if (c.Seg(g) != 0) != (g < gap) {
				t.Fatalf("gap %d: segment %d: %d", gap, g, c.Seg(g))
			}
		}
	}
}

// A block that is gone, or too short, has counters that count as 0: it goes on with the next segment.
func TestGoneP13_1(t *testing.T) {
	for gone := range 8 {
		a, segs := newArena(t, 8)
		enter(a, segs, 0, 1, 2, 6, 14, 30, 62, 126, 254)
		a.Free(segs[gone])
		was := a.Faults()
		c, _ := follow(t, a)
		if a.Faults() != was+1 || c.Seg(gone) != segs[gone] || c.Seg(7) != segs[7] {
			t.Fatalf("%d faults, segment %d: %d", a.Faults()-was, gone, c.Seg(gone))
		}
	}
	a, segs := newArena(t, 3)
	enter(a, segs, 0, 1, 2, 3, 6)
	short, _ := a.Lay(make([]uint64, 11)...)
	a.Write(api.Addr{At: 2}, short)
	c, _ := follow(t, a)
	if want := placesOf(segs, 0, 3, 6); !slices.Equal(c.Places(), want) || a.Faults() != 1 {
		t.Fatalf("%v, %d faults", c.Places(), a.Faults())
	}
}

// Of a fixed word that has no segment's handle nothing is promised but an end, and that no word is changed.
func TestNoSegment(t *testing.T) {
	for _, h := range []uint64{1, 7, 65536, 131074, math.MaxUint64} {
		a, segs := newArena(t, 8)
		enter(a, segs, 0, 1, 2, 6, 14, 30, 62, 126, 254)
		was := a.Clone()
		for g := range 8 {
			a.Write(api.Addr{At: 1 + g}, h)
			was.Write(api.Addr{At: 1 + g}, h)
			toEnd(t, New(a))
			if !arena.Same(a, was) {
				t.Fatal("the words differ")
			}
		}
	}
}

// What others do between two reads is seen, if it is ahead of the read of that word: nothing is read twice, nothing ahead of its time.
func TestOthersP13_1(t *testing.T) {
	r := rand.New(rand.NewSource(3))
	for range 1000 {
		segments := 1 + r.Intn(5)
		a, segs := newArena(t, segments)
		more, _ := a.Lay(make([]uint64, 7<<segments)...)
		changes := make([]change, 80)
		for i := range changes {
			g, fixed := r.Intn(segments), r.Intn(60) == 0
			x, w := api.Addr{Block: segs[g], At: 5<<g + r.Intn(2<<g)}, uint64(r.Intn(2))
			changes[i] = func(a *arena.Arena) {
				a.Write(x, w)
				if fixed {
					a.Write(api.Addr{At: 1 + segments}, more)
				}
			}
		}
		for range r.Intn(60) {
			changes[r.Intn(80)](a)
		}
		follow(t, a, changes...)
	}
}

// A fixed word is read once, ahead of its segment: the places have the handle that stood there then.
func TestOtherHandleP13_1(t *testing.T) {
	a, segs := newArena(t, 2)
	enter(a, segs, 1, 2)
	move := func(a *arena.Arena) { a.Write(api.Addr{At: 2}, segs[0]) }
	nothing := func(*arena.Arena) {}
	for n := range 3 {
		c, _ := follow(t, a.Clone(), append(slices.Repeat([]change{nothing}, 3+n), move)...)
		if want := placesOf(segs, 1, 2); !slices.Equal(c.Places(), want) || c.Seg(1) != segs[1] {
			t.Fatalf("%v, want %v", c.Places(), want)
		}
	}
}

// Who is counted behind the read of its topmost counter isn't found, and who isn't any more is, if it was.
func TestTooLateP13_1(t *testing.T) {
	a, segs := newArena(t, 1)
	c := New(a)
	c.Step()
	c.Step()
	enter(a, segs, 0)
	c.Step()
	tells(t, c, true, moment{nil, [8]uint64{segs[0]}})
	c = New(a)
	c.Step()
	c.Step()
	a.Write(counters(segs, 0)[0], 0)
	c.Step()
	tells(t, c, true, moment{placesOf(segs, 0), [8]uint64{segs[0]}})
}

// To make a collect is no access; and collects of one arena go on apart.
func TestApartP13_1(t *testing.T) {
	a, segs := newArena(t, 2)
	enter(a, segs, 0, 2)
	was := a.Clone()
	x, y := New(a), New(a)
	isSame(t, a, was)
	x.Step()
	x.Step()
	tells(t, x, false, moment{placesOf(segs, 0), [8]uint64{segs[0]}})
	tells(t, y, false, moment{})
	y.Step()
	tells(t, x, false, moment{placesOf(segs, 0), [8]uint64{segs[0]}})
	tells(t, y, false, moment{nil, [8]uint64{segs[0]}})
	toEnd(t, y)
	tells(t, x, false, moment{placesOf(segs, 0), [8]uint64{segs[0]}})
	tells(t, y, true, moment{placesOf(segs, 0, 2), [8]uint64{segs[0], segs[1]}})
}

// An answer is new memory, with its spare room: neither what is done to it nor a later step changes another.
func TestNewMemoryP13_1(t *testing.T) {
	a, segs := newArena(t, 8)
	var slots []int
	for slot := range 40 {
		slots = append(slots, slot)
	}
	enter(a, segs, slots...)
	c := New(a)
	for !c.Done() {
		was := c.Places()
		n := len(was)
		full := was[:cap(was)]
		for i := range full {
			full[i] = api.Place{Seg: 1, Slot: -1}
		}
		c.Step()
		for i := range full {
			if full[i] != (api.Place{Seg: 1, Slot: -1}) {
				t.Fatalf("the answer with %d places has changed", n)
			}
		}
	}
	if want := placesOf(segs, slots...); !slices.Equal(c.Places(), want) {
		t.Fatalf("%v, want %v", c.Places(), want)
	}
}

func TestSegRangeP13_1(t *testing.T) {
	a, segs := newArena(t, 8)
	c := New(a)
	toEnd(t, c)
	for _, g := range []int{-1, -2, 8, 9, math.MinInt, math.MaxInt, math.MinInt32, math.MaxInt32} {
		if h := c.Seg(g); h != 0 {
			t.Fatalf("segment %d: %d", g, h)
		}
	}
	for g := range 8 {
		if c.Seg(g) != segs[g] {
			t.Fatalf("segment %d: %d", g, c.Seg(g))
		}
	}
}

func TestNilP13_1(t *testing.T) {
	var c *Collect
	for range 2 {
		tells(t, c, true, moment{})
		c.Step()
	}
}

// Without an arena nothing is promised but an end, and no panic.
func TestNoArena(t *testing.T) {
	c := New(nil)
	toEnd(t, c)
	if c.Places() != nil {
		t.Fatalf("%v", c.Places())
	}
}
