package hold

import (
	"math"
	"math/rand"
	"slices"
	"testing"

	"roundelay/api"
	"roundelay/arena"
	"roundelay/pace"
)

// All three are machines.
var (
	_ pace.Machine = &Grip{}
	_ pace.Machine = &Fetch{}
	_ pace.Machine = &Clear{}
)

// roots at all edges: of none, of the least and the greatest handle and turn, and words that are no roots.
var roots = []uint64{0, 1, 1048575, 1048576, 65537 << 20, 65537<<20 + 5, 65538 << 20, 131073 << 20, 1 << 63, math.MaxInt64, math.MaxUint64 - 1, math.MaxUint64}

// wordsOf a block.
func wordsOf(a *arena.Arena, h uint64) []uint64 {
	for x, words := range a.All() {
		if x == h {
			return words
		}
	}
	return nil
}

// The root 68720525317 is that of the block 65537 with the turn 5.
func TestGripP14_1(t *testing.T) {
	a, _ := arena.New(100)
	seg, _ := a.Lay(make([]uint64, 14)...)
	a.Write(api.Addr{}, 68720525317)
	g := NewGrip(a, api.Place{Seg: seg, Slot: 2})
	tells(t, g, false, moment{})
	g.Step()
	tells(t, g, false, moment{root: 68720525317})
	holds(t, a, seg, 0, 0)
	g.Step()
	tells(t, g, false, moment{root: 68720525317})
	holds(t, a, seg, 65537, 0)
	g.Step()
	tells(t, g, true, moment{root: 68720525317, out: api.Won})
	holds(t, a, seg, 65537, 0)
	if a.Tally() != (api.Tally{Lays: 1, Reads: 2, Writes: 2}) || a.Faults() != 0 {
		t.Fatalf("%v, %d faults", a.Tally(), a.Faults())
	}
}

// holds: the second slot of the segment 1 holds these, and all other words of it are noughts.
func holds(t *testing.T, a *arena.Arena, seg, x, y uint64) {
	t.Helper()
	want := make([]uint64, 14)
	want[8], want[9] = x, y
	if l := wordsOf(a, seg); !slices.Equal(l, want) {
		t.Fatalf("%v", l)
	}
}

func TestFetchP14_1(t *testing.T) {
	a, _ := arena.New(100)
	seg, _ := a.Lay(make([]uint64, 14)...)
	h, _ := a.Lay(11, 12, 13, 14, 15)
	a.Write(api.Addr{}, 68720525317)
	f := NewFetch(a, api.Place{Seg: seg, Slot: 2}, 68720525317, h, 4)
	tells(t, f, false, moment{})
	f.Step()
	tells(t, f, false, moment{})
	holds(t, a, seg, 0, h)
	f.Step()
	for i := range 4 {
		tells(t, f, false, moment{words: []uint64{11, 12, 13, 14}[:i]})
		f.Step()
	}
	tells(t, f, true, moment{words: []uint64{11, 12, 13, 14}, out: api.Won})
	holds(t, a, seg, 0, h)
	if a.Tally() != (api.Tally{Lays: 2, Reads: 5, Writes: 2}) || a.Faults() != 0 {
		t.Fatalf("%v, %d faults", a.Tally(), a.Faults())
	}
}

func TestClearP14_1(t *testing.T) {
	a, _ := arena.New(100)
	seg, _ := a.Lay(make([]uint64, 14)...)
	a.Write(api.Addr{Block: seg, At: 8}, 7)
	a.Write(api.Addr{Block: seg, At: 9}, 8)
	c := NewClear(a, api.Place{Seg: seg, Slot: 2})
	holds(t, a, seg, 7, 8)
	tells(t, c, false, moment{})
	c.Step()
	holds(t, a, seg, 0, 8)
	tells(t, c, false, moment{})
	c.Step()
	holds(t, a, seg, 0, 0)
	tells(t, c, true, moment{})
	if a.Tally() != (api.Tally{Lays: 1, Writes: 4}) || a.Faults() != 0 {
		t.Fatalf("%v, %d faults", a.Tally(), a.Faults())
	}
}

// Each slot's own words are written, and no others.
func TestEachSlotP14_1(t *testing.T) {
	for slot := range 255 {
		a, segs := newArena(t, 8, roots[slot%len(roots)])
		own := placeIn(segs, slot)
		h, _ := a.Lay(4, 3, 2, 1)
		if n := followGrip(t, a, own); n != 3 {
			t.Fatalf("slot %d: a grip in %d steps", slot, n)
		}
		if n := followFetch(t, a, own, roots[slot%len(roots)], h, 4); n != 6 {
			t.Fatalf("slot %d: a fetch in %d steps", slot, n)
		}
		if n := followClear(t, a, own); n != 2 {
			t.Fatalf("slot %d: a clear in %d steps", slot, n)
		}
		if a.Faults() != 0 {
			t.Fatalf("slot %d: %d faults", slot, a.Faults())
		}
	}
}

// Whatever the root was, and has become between two steps: the whole word is held against the whole word, not its Top alone, or its Turn.
func TestGripRootsP14_1(t *testing.T) {
	for _, was := range roots {
		for _, is := range roots {
			for at := range 4 {
				a, segs := newArena(t, 2, was)
				changes := append(slices.Repeat([]change{nothing}, at), setRoot(is))
				followGrip(t, a, placeIn(segs, 1), changes...)
			}
		}
	}
	// Changed, and changed back, between the reads: Won.
	a, segs := newArena(t, 1, 65537<<20)
	g := NewGrip(a, placeIn(segs, 0))
	g.Step()
	setRoot(131074 << 20)(a)
	g.Step()
	setRoot(65537 << 20)(a)
	g.Step()
	tells(t, g, true, moment{root: 65537 << 20, out: api.Won})
}

func TestFetchRootsP14_1(t *testing.T) {
	for _, under := range roots {
		for _, is := range roots {
			for at := range 5 {
				a, segs := newArena(t, 2, roots[at])
				h, _ := a.Lay(7, 8, 9)
				changes := append(slices.Repeat([]change{nothing}, at), setRoot(is))
				followFetch(t, a, placeIn(segs, 1), under, h, 3, changes...)
			}
		}
	}
}

// A fetch that has Changed reads no words; one of none reads none either.
func TestFetchStepsP14_1(t *testing.T) {
	a, segs := newArena(t, 1, 5)
	h, _ := a.Lay(make([]uint64, 2048)...)
	for _, n := range []int{1, 2, 3, 4, 5, 8, 100, 2047, 2048} {
		if k := followFetch(t, a, placeIn(segs, 0), 5, h, n); k != n+2 {
			t.Fatalf("%d words in %d steps", n, k)
		}
		if k := followFetch(t, a, placeIn(segs, 0), 6, h, n); k != 2 {
			t.Fatalf("Changed in %d steps", k)
		}
	}
	for _, n := range []int{0, -1, -2, math.MinInt32, math.MinInt} {
		for root := uint64(4); root < 7; root++ {
			if k := followFetch(t, a, placeIn(segs, 0), root, h, n); k != 2 {
				t.Fatalf("%d words in %d steps", n, k)
			}
		}
	}
}

// Words beyond the block's, and those of a block that is gone, or is freed meanwhile, count as 0: the fetch goes on to its end.
func TestFetchGoneP14_1(t *testing.T) {
	a, segs := newArena(t, 1, 5)
	own := placeIn(segs, 0)
	h, _ := a.Lay(7, 8, 9)
	if n := followFetch(t, a, own, 5, h, 6); n != 8 || a.Faults() != 3 {
		t.Fatalf("%d steps, %d faults", n, a.Faults())
	}
	for at := range 6 {
		b := a.Clone()
		free := func(x *arena.Arena) { x.Free(h) }
		followFetch(t, b, own, 5, h, 3, append(slices.Repeat([]change{nothing}, at), free)...)
	}
	a.Free(h)
	other, _ := a.Lay(1, 2, 3)
	if other == h || other&65535 != h&65535 {
		t.Fatalf("%d, %d", h, other)
	}
	for _, x := range []uint64{h, 1, 65536, h + 1, math.MaxUint64} {
		f := NewFetch(a, own, 5, x, 3)
		was := a.Faults()
		if n := toEnd(t, f); n != 5 || !slices.Equal(f.Words(), []uint64{0, 0, 0}) || a.Faults() != was+3 {
			t.Fatalf("%d steps, %v, %d faults", n, f.Words(), a.Faults()-was)
		}
		tells(t, f, true, moment{words: []uint64{0, 0, 0}, out: api.Won})
		if w, _ := a.Read(holdB(own)); w != x {
			t.Fatalf("%d is held, want %d", w, x)
		}
	}
}

// The words are read one by one, each as it is then.
func TestFetchOneByOneP14_1(t *testing.T) {
	a, segs := newArena(t, 1, 5)
	h, _ := a.Lay(1, 2, 3, 4)
	var changes []change
	for i := range 7 {
		changes = append(changes, func(x *arena.Arena) {
			for at := range 4 {
				x.Add(api.Addr{Block: h, At: at}, uint64(100<<(4*i)))
			}
		})
	}
	followFetch(t, a, placeIn(segs, 0), 5, h, 4, changes...)
}

// A fetch of ever so many words takes no more room than what was read so far.
func TestFetchMostP14_1(t *testing.T) {
	for _, n := range []int{math.MaxInt, math.MaxInt - 1, math.MaxInt32, 1 << 40} {
		a, segs := newArena(t, 1, 5)
		h, _ := a.Lay(7, 8)
		f := NewFetch(a, placeIn(segs, 0), 5, h, n)
		for range 2 + 5 {
			f.Step()
		}
		tells(t, f, false, moment{words: []uint64{7, 8, 0, 0, 0}})
	}
}

// Both holds are each machine's own: a grip leaves HoldB as it is, a fetch HoldA; and the other words of a slot are nobody's here.
func TestOtherWordsP14_1(t *testing.T) {
	a, segs := newArena(t, 2, 131074<<20)
	own := placeIn(segs, 2)
	h, _ := a.Lay(1)
	was := wordsOf(a, segs[1])
	toEnd(t, NewGrip(a, own))
	was[8] = 131074
	if l := wordsOf(a, segs[1]); !slices.Equal(l, was) {
		t.Fatalf("%v, want %v", l, was)
	}
	toEnd(t, NewFetch(a, own, 0, h, 1))
	was[9] = h
	if l := wordsOf(a, segs[1]); !slices.Equal(l, was) {
		t.Fatalf("%v, want %v", l, was)
	}
	toEnd(t, NewClear(a, own))
	was[8], was[9] = 0, 0
	if l := wordsOf(a, segs[1]); !slices.Equal(l, was) {
		t.Fatalf("%v, want %v", l, was)
	}
}

// Of what others do between two steps only the root, and the words of the block, are seen: not what becomes of the holds themselves.
func TestOthersP14_1(t *testing.T) {
	r := rand.New(rand.NewSource(1))
	for range 2000 {
		a, segs := newArena(t, 3, roots[r.Intn(3)])
		h, _ := a.Lay(1, 2, 3)
		own := placeIn(segs, r.Intn(7))
		var changes []change
		for range 8 {
			x, w := api.Addr{}, roots[r.Intn(3)]
			switch r.Intn(4) {
			case 0:
				x = api.Addr{Block: h, At: r.Intn(3)}
			case 1:
				x = wordOf(own, r.Intn(5))
			case 2:
				x = api.Addr{At: 1 + r.Intn(8)}
			}
			changes = append(changes, func(a *arena.Arena) { a.Write(x, w) })
		}
		switch r.Intn(3) {
		case 0:
			followGrip(t, a, own, changes...)
		case 1:
			followFetch(t, a, own, roots[r.Intn(3)], h, r.Intn(5), changes...)
		case 2:
			followClear(t, a, own, changes...)
		}
	}
}

// Of a slot that there isn't no word is written, least of all one of another's, or the root; the machines go on.
func TestNoSlotP14_1(t *testing.T) {
	for _, slot := range []int{-1, -2, -255, math.MinInt, 255, 256, 510, math.MaxInt} {
		for _, root := range []uint64{0, 5, 65537<<20 + 5} {
			a, segs := newArena(t, 8, root)
			h, _ := a.Lay(7, 8, 9)
			was := a.Clone()
			for _, seg := range []uint64{0, segs[0], segs[7]} {
				own := api.Place{Seg: seg, Slot: slot}
				if n := followGrip(t, a, own); n != 3 {
					t.Fatalf("a grip in %d steps", n)
				}
				if n := followFetch(t, a, own, root, h, 3); n != 5 {
					t.Fatalf("a fetch in %d steps", n)
				}
				if n := followClear(t, a, own); n != 2 {
					t.Fatalf("a clear in %d steps", n)
				}
			}
			if !arena.Same(a, was) {
				t.Fatal("the words differ")
			}
		}
	}
}

// Of a segment that isn't there nothing is promised but an end; no word of those that are there is touched, least of all the root.
func TestNoSegment(t *testing.T) {
	a, segs := newArena(t, 3, 65537<<20+5)
	gone, _ := a.Lay(make([]uint64, 28)...)
	a.Free(gone)
	was := a.Clone()
	for _, seg := range []uint64{0, 7, gone, segs[0] + 1, math.MaxUint64} {
		for slot := range 255 {
			own := api.Place{Seg: seg, Slot: slot}
			toEnd(t, NewGrip(a, own))
			toEnd(t, NewFetch(a, own, 5, segs[0], 1))
			toEnd(t, NewFetch(a, own, 65537<<20+5, segs[0], 1))
			toEnd(t, NewClear(a, own))
		}
	}
	if !arena.Same(a, was) {
		t.Fatal("the words differ")
	}
}

// The handle 0 is held as it is, and leads to no block; a fetch of it ends, and changes nothing else.
func TestNoBlock(t *testing.T) {
	a, segs := newArena(t, 3, 5)
	own := placeIn(segs, 4)
	was := a.Clone()
	was.Write(holdB(own), 0)
	f := NewFetch(a, own, 5, 0, 20)
	if n := toEnd(t, f); n != 22 || f.Out() != api.Won || len(f.Words()) != 20 {
		t.Fatalf("%d steps, %d, %v", n, f.Out(), f.Words())
	}
	if !arena.Same(a, was) {
		t.Fatal("the words differ")
	}
}

// To make a machine is no access; and machines of one place go on apart.
func TestApartP14_1(t *testing.T) {
	a, segs := newArena(t, 1, 5)
	own := placeIn(segs, 0)
	h, _ := a.Lay(7, 8)
	was := a.Clone()
	x, y := NewGrip(a, own), NewGrip(a, own)
	f, e := NewFetch(a, own, 5, h, 2), NewFetch(a, own, 6, h, 2)
	c := NewClear(a, own)
	isSame(t, a, was)
	x.Step()
	f.Step()
	setRoot(6)(a)
	tells(t, y, false, moment{})
	tells(t, e, false, moment{})
	y.Step()
	tells(t, x, false, moment{root: 5})
	tells(t, y, false, moment{root: 6})
	f.Step()
	e.Step()
	e.Step()
	e.Step()
	tells(t, f, true, moment{out: api.Changed})
	tells(t, e, false, moment{words: []uint64{7}})
	x.Step()
	c.Step()
	x.Step()
	tells(t, x, true, moment{root: 5, out: api.Changed})
	tells(t, y, false, moment{root: 6})
	y.Step()
	y.Step()
	e.Step()
	c.Step()
	tells(t, y, true, moment{root: 6, out: api.Won})
	tells(t, e, true, moment{words: []uint64{7, 8}, out: api.Won})
	tells(t, c, true, moment{})
}

// An answer is new memory, with its spare room: neither what is done to it nor a later step changes another.
func TestNewMemoryP14_1(t *testing.T) {
	a, segs := newArena(t, 1, 5)
	var l []uint64
	for i := range 40 {
		l = append(l, uint64(i+1))
	}
	h, _ := a.Lay(l...)
	f := NewFetch(a, placeIn(segs, 0), 5, h, 40)
	for !f.Done() {
		was := f.Words()
		n := len(was)
		full := was[:cap(was)]
		for i := range full {
			full[i] = 1000
		}
		f.Step()
		for _, w := range full {
			if w != 1000 {
				t.Fatalf("the answer with %d words has changed", n)
			}
		}
	}
	tells(t, f, true, moment{words: l, out: api.Won})
}

// Another machine goes on by them, and behind them.
func TestGearP14_1(t *testing.T) {
	a, segs := newArena(t, 1, 65537<<20)
	own := placeIn(segs, 0)
	h, _ := a.Lay(7, 8)
	var g pace.Gear
	grip := NewGrip(a, own)
	g.Run(grip, func() {
		fetch := NewFetch(a, own, grip.Root(), h, 2)
		g.Run(fetch, func() {
			if !slices.Equal(fetch.Words(), []uint64{7, 8}) {
				t.Errorf("%v", fetch.Words())
			}
			g.Run(NewClear(a, own), g.End)
		})
	})
	if n := toEnd(t, &g); n != 3+4+2 {
		t.Fatalf("%d steps", n)
	}
}

func TestNilP14_1(t *testing.T) {
	var g *Grip
	var f *Fetch
	var c *Clear
	for range 2 {
		for _, m := range []pace.Machine{g, f, c} {
			tells(t, m, true, moment{})
			m.Step()
		}
	}
}

// Without an arena nothing is promised but an end, and no panic.
func TestNoArena(t *testing.T) {
	for slot := -1; slot <= 255; slot++ {
		own := api.Place{Seg: 65537, Slot: slot}
		toEnd(t, NewGrip(nil, own))
		toEnd(t, NewFetch(nil, own, 0, 65537, 4))
		toEnd(t, NewFetch(nil, own, 5, 65537, 4))
		toEnd(t, NewClear(nil, own))
	}
}
