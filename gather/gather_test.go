package gather

import (
	"math"
	"math/rand"
	"slices"
	"testing"

	"roundelay/api"
	"roundelay/arena"
	"roundelay/pace"
)

// a Gather is a machine.
var _ pace.Machine = &Gather{}

const mostBody = 1<<32 - 1

// gathers just this, in so many reads.
func gathers(t *testing.T, a *arena.Arena, reads int, want ...api.Asked) {
	t.Helper()
	n, asked := follow(t, a, alone)
	if !slices.Equal(asked, want) {
		t.Fatalf("%v, want %v", asked, want)
	}
	if n != reads {
		t.Fatalf("%d reads, want %d", n, reads)
	}
}

// put is what somebody asks to be put, of another value at each place.
func put(slot int) api.Op { return api.Op{Code: api.MapPut, Key: slot, A: 1000 - slot} }

// Nobody is counted, though all ask: nothing, behind a collect.
func TestNobodyP17_1(t *testing.T) {
	for segments, reads := range []int{1, 3, 5, 7, 9, 11, 13, 15, 16} {
		a, segs := newArena(t, segments)
		for slot := range 1<<segments - 1 {
			ask(a, placeIn(segs, slot), 1, number(put(slot)))
		}
		gathers(t, a, reads)
	}
	a, _ := arena.New(0)
	gathers(t, a, 1)
}

// Two who ask and one who doesn't, step by step: it stands there behind the read of Told.
func TestStepsP17_1(t *testing.T) {
	a, segs := newArena(t, 3)
	l := []api.Place{placeIn(segs, 0), placeIn(segs, 2), placeIn(segs, 4)}
	enter(a, l...)
	ask(a, l[0], 9, number(put(0)))
	tell(a, l[0], 7, 3)
	ask(a, l[1], 6, number(put(2)))
	tell(a, l[1], 6, 0)
	ask(a, l[2], 1, number(put(4)))
	was := a.Tally()
	g := New(a)
	if a.Tally() != was {
		t.Fatalf("to make it is an access: %v", a.Tally())
	}
	asked := []api.Asked{{Place: l[0], Seq: 9, Op: put(0)}, {Place: l[2], Seq: 1, Op: put(4)}}
	// The collect: two reads for the segment 0, four for the segment 1, six for the segment 2, and one more.
	for i := range 19 {
		want := asked[:1]
		if i < 15 {
			want = nil
		}
		tells(t, g, false, want)
		g.Step()
	}
	for range 3 {
		tells(t, g, true, asked)
		g.Step()
	}
	was.Reads += 19
	if a.Tally() != was || a.Faults() != 0 {
		t.Fatalf("%v, want %v; %d faults", a.Tally(), was, a.Faults())
	}
	gathers(t, a, 19, asked...)
}

// Each slot may ask; those that aren't counted do, too, but aren't looked at.
func TestEachSlotP17_1(t *testing.T) {
	base, segs := newArena(t, 8)
	for slot := range 255 {
		ask(base, placeIn(segs, slot), uint64(slot+1), number(put(slot)))
	}
	for slot := range 255 {
		a, own := base.Clone(), placeIn(segs, slot)
		enter(a, own)
		g, _, _ := segmentOf(slot)
		gathers(t, a, 16+2*g+2, api.Asked{Place: own, Seq: uint64(slot + 1), Op: put(slot)})
		// Somebody half in, or half out, whose own counter alone leads nowhere.
		if g > 0 {
			a.Write(counters(own)[g], 0)
			gathers(t, a, 16)
		}
	}
}

// All are there, and each one asks: each counter and each fixed word is read, and two words of each.
func TestFullP17_1(t *testing.T) {
	a, segs := newArena(t, 8)
	var want []api.Asked
	for slot := range 255 {
		own := placeIn(segs, slot)
		enter(a, own, own)
		ask(a, own, api.MostSeq, number(put(slot)))
		tell(a, own, api.MostSeq-1, uint64(slot))
		want = append(want, api.Asked{Place: own, Seq: api.MostSeq, Op: put(slot)})
	}
	gathers(t, a, 8+502+510, want...)
}

// Whoever of the first seven is there, and asks, is gathered, in order: of each, there are those who ask without being there, those who are there without asking, and those who do both.
func TestEachSetP17_1(t *testing.T) {
	base, segs := newArena(t, 3)
	for set := range 3 * 3 * 3 * 3 * 3 * 3 * 3 {
		a, rest := base.Clone(), set
		var want []api.Asked
		for slot := range 7 {
			own, seq := placeIn(segs, slot), uint64(10-slot)
			ask(a, own, seq, number(put(slot)))
			if rest%3 > 0 {
				enter(a, own)
			}
			if rest%3 == 1 {
				tell(a, own, seq, 0)
			}
			if rest%3 == 2 {
				want = append(want, api.Asked{Place: own, Seq: seq, Op: put(slot)})
			}
			rest /= 3
		}
		if _, asked := follow(t, a, alone); !slices.Equal(asked, want) {
			t.Fatalf("%v, want %v", asked, want)
		}
	}
}

// It is asked for where Ask's Seq is above Told's, whatever Told's body is.
func TestSeqsP17_1(t *testing.T) {
	seqs := []uint64{0, 1, 2, 255, 1 << 16, 1<<31 - 1, 1 << 31, api.MostSeq - 1, api.MostSeq}
	base, segs := newArena(t, 1)
	own := placeIn(segs, 0)
	enter(base, own)
	for _, seq := range seqs {
		for _, was := range seqs {
			for _, body := range []uint64{0, 1, number(put(0)) - 1, number(put(0)), number(put(0)) + 1, 5 << 28, mostBody} {
				a := base.Clone()
				ask(a, own, seq, number(put(0)))
				tell(a, own, was, body)
				var want []api.Asked
				if seq > was {
					want = []api.Asked{{Place: own, Seq: seq, Op: put(0)}}
				}
				gathers(t, a, 5, want...)
			}
		}
	}
}

// It is asked for where Ask's Body is a real operation's number: no part may be there that isn't used.
func TestBodiesP17_1(t *testing.T) {
	base, segs := newArena(t, 1)
	own := placeIn(segs, 0)
	enter(base, own)
	codes := map[int]int{}
	for code := range 16 {
		for _, key := range []int{0, 1, 128, 255} {
			for _, x := range []int{0, 1, 512, 1023} {
				for _, y := range []int{0, 1, 512, 1023} {
					a, o := base.Clone(), api.Op{Code: code, Key: key, A: x, B: y}
					ask(a, own, 1, number(o))
					_, asked := follow(t, a, alone)
					if len(asked) == 0 {
						continue
					}
					if !slices.Equal(asked, []api.Asked{{Place: own, Seq: 1, Op: o}}) {
						t.Fatalf("%v: %v", o, asked)
					}
					codes[code]++
				}
			}
		}
	}
	for code, n := range []int{0, 4, 1, 1, 4, 16, 4, 64, 1, 4, 16, 4, 4, 4, 4, 0} {
		if codes[code] != n {
			t.Fatalf("the code %d: %d operations, want %d", code, codes[code], n)
		}
	}
}

// Any bodies, and any words. The seed is fixed, so that each run sees the same.
func TestDrawnWordsP17_1(t *testing.T) {
	r := rand.New(rand.NewSource(1))
	gathered := 0
	for range 3000 {
		a, segs := newArena(t, 1+r.Intn(4))
		for slot := range 1<<len(segs) - 1 {
			own := placeIn(segs, slot)
			if r.Intn(3) > 0 {
				enter(a, own)
			}
			// Few bits, so that many of them are operations.
			body := uint64(r.Intn(16))<<28 | uint64(r.Intn(2)*r.Intn(256))<<20 | uint64(r.Intn(2)*r.Intn(1024))<<10 | uint64(r.Intn(5)/4)
			ask(a, own, r.Uint64()>>32>>(r.Intn(33)), body)
			tell(a, own, r.Uint64()>>32>>(r.Intn(33)), uint64(r.Uint32()))
		}
		_, asked := follow(t, a, alone)
		gathered += len(asked)
	}
	if gathered < 1000 {
		t.Fatalf("%d gathered", gathered)
	}
}

// What others do at the place between, or beside, the two reads.
func TestMeanwhileP17_1(t *testing.T) {
	base, segs := newArena(t, 2)
	own := placeIn(segs, 2)
	enter(base, placeIn(segs, 0), own)
	ask(base, own, 3, number(put(1)))
	tell(base, own, 2, 0)
	first := []api.Asked{{Place: own, Seq: 3, Op: put(1)}}
	second := []api.Asked{{Place: own, Seq: 4, Op: put(2)}}
	for i, x := range []struct {
		field int
		do    change
		want  []api.Asked
	}{
		{api.Ask, func(a *arena.Arena) { tell(a, own, 3, 1) }, nil},
		{api.Told, func(a *arena.Arena) { tell(a, own, 3, 1) }, nil},
		{api.Ask, func(a *arena.Arena) { ask(a, own, 4, number(put(2))) }, second},
		{api.Told, func(a *arena.Arena) { ask(a, own, 4, number(put(2))) }, first},
		{api.Ask, func(a *arena.Arena) { ask(a, own, 3, 0) }, nil},
		{api.Told, func(a *arena.Arena) { ask(a, own, 3, 0) }, first},
		{api.Ask, func(a *arena.Arena) { tell(a, own, 3, 1); ask(a, own, 4, number(put(2))) }, second},
		{api.Told, func(a *arena.Arena) { tell(a, own, 3, 1); ask(a, own, 4, number(put(2))) }, nil},
		{api.Told, func(a *arena.Arena) { tell(a, own, 2, mostBody) }, first},
		{api.Ask, func(a *arena.Arena) { enter(a, placeIn(segs, 1)) }, first},
		{api.Ask, func(a *arena.Arena) { a.Write(counters(own)[0], 0) }, first},
		{api.Ask, func(a *arena.Arena) { a.Write(api.Addr{At: 2}, segs[0]) }, first},
		{api.Ask, func(a *arena.Arena) { a.Free(segs[1]) }, nil},
		{api.Told, func(a *arena.Arena) { a.Free(segs[1]) }, first},
	} {
		n, asked := follow(t, base.Clone(), ahead(wordIn(own, x.field), x.do))
		if n != 11 || !slices.Equal(asked, x.want) {
			t.Fatalf("%d: %d steps, %v, want %v", i, n, asked, x.want)
		}
	}
}

// The words are read behind the whole collect, each one once: what came there till then is gathered, what was answered isn't.
func TestBehindTheCollectP17_1(t *testing.T) {
	base, segs := newArena(t, 2)
	x, y := placeIn(segs, 0), placeIn(segs, 2)
	enter(base, x, y)
	ask(base, y, 1, number(put(2)))
	n, asked := follow(t, base.Clone(), ahead(api.Addr{At: 3}, func(a *arena.Arena) {
		ask(a, x, 1, number(put(0)))
		tell(a, y, 1, 0)
	}))
	if n != 11 || !slices.Equal(asked, []api.Asked{{Place: x, Seq: 1, Op: put(0)}}) {
		t.Fatalf("%d steps, %v", n, asked)
	}
	// The one that is read first asks too late.
	_, asked = follow(t, base.Clone(), ahead(wordIn(y, api.Ask), func(a *arena.Arena) {
		ask(a, x, 1, number(put(0)))
	}))
	if !slices.Equal(asked, []api.Asked{{Place: y, Seq: 1, Op: put(2)}}) {
		t.Fatalf("%v", asked)
	}
}

// Whatever others do between two steps.
func TestOthersP17_1(t *testing.T) {
	r := rand.New(rand.NewSource(2))
	gathered := 0
	for range 3000 {
		a, segs := newArena(t, 1+r.Intn(3))
		slots := 1<<len(segs) - 1
		more := lay(t, a, make([]uint64, 7<<len(segs))...)
		for slot := range slots {
			if r.Intn(3) > 0 {
				enter(a, placeIn(segs, slot))
				ask(a, placeIn(segs, slot), uint64(r.Intn(4)), number(put(slot)))
			}
		}
		often := 1 + r.Intn(6)
		_, asked := follow(t, a, func(n int, _ api.Addr) change {
			if n > 100 || r.Intn(often) != 0 {
				return nil
			}
			return drawn(r, placeIn(segs, r.Intn(slots)), more)
		})
		gathered += len(asked)
	}
	if gathered < 1000 {
		t.Fatalf("%d gathered", gathered)
	}
}

// drawn is what somebody else may do at a place.
func drawn(r *rand.Rand, own api.Place, more uint64) change {
	word := r.Uint64()
	l := counters(own)
	x := l[r.Intn(len(l))]
	g, _, _ := segmentOf(own.Slot)
	return []change{
		func(a *arena.Arena) { ask(a, own, word%5, number(put(own.Slot))) },
		func(a *arena.Arena) { ask(a, own, word%5, word>>32) },
		func(a *arena.Arena) { tell(a, own, word%5, word>>32) },
		func(a *arena.Arena) { a.Write(wordIn(own, int(word%5)), word) },
		func(a *arena.Arena) { a.Add(x, 1) },
		func(a *arena.Arena) { a.Write(x, word%2) },
		func(a *arena.Arena) { enter(a, own) },
		func(a *arena.Arena) {
			if word%8 == 0 {
				a.Write(api.Addr{At: 2 + g}, more)
			}
		},
		func(a *arena.Arena) {
			if word%8 == 0 {
				a.Free(own.Seg)
			}
		},
	}[r.Intn(9)]
}

// Of a fixed word that has no segment's handle nothing is promised but an end, and that no word is changed.
func TestNoSegment(t *testing.T) {
	for _, h := range []uint64{1, 7, 65536, 131074, math.MaxUint64} {
		a, segs := newArena(t, 8)
		for slot := range 255 {
			enter(a, placeIn(segs, slot))
			ask(a, placeIn(segs, slot), 1, number(put(slot)))
		}
		was := a.Clone()
		for g := range 8 {
			a.Write(api.Addr{At: 1 + g}, h)
			was.Write(api.Addr{At: 1 + g}, h)
			toEnd(t, New(a))
			if !arena.Same(a, was) {
				t.Fatal("the words differ")
			}
		}
	}
}

// A segment that is gone has nobody; what is behind it is gathered.
func TestGoneP17_1(t *testing.T) {
	for gone := range 3 {
		a, segs := newArena(t, 3)
		var want []api.Asked
		for g, slot := range []int{0, 1, 5} {
			own := placeIn(segs, slot)
			enter(a, own)
			ask(a, own, 1, number(put(slot)))
			if g != gone {
				want = append(want, api.Asked{Place: own, Seq: 1, Op: put(slot)})
			}
		}
		a.Free(segs[gone])
		if _, asked := follow(t, a, alone); !slices.Equal(asked, want) || a.Faults() != 1 {
			t.Fatalf("%v, want %v; %d faults", asked, want, a.Faults())
		}
	}
}

// Gathers of one arena, and of two, go on apart.
func TestApartP17_1(t *testing.T) {
	a, segs := newArena(t, 2)
	own, other := placeIn(segs, 0), placeIn(segs, 1)
	enter(a, own)
	ask(a, own, 1, number(put(0)))
	b := a.Clone()
	was := b.Clone()
	x, y, z := New(a), New(a), New(b)
	for range 7 {
		x.Step()
	}
	want := []api.Asked{{Place: own, Seq: 1, Op: put(0)}}
	tells(t, x, true, want)
	tells(t, y, false, nil)
	tells(t, z, false, nil)
	isSame(t, b, was)
	enter(a, other)
	ask(a, other, 2, number(put(1)))
	toEnd(t, y)
	toEnd(t, z)
	tells(t, x, true, want)
	tells(t, z, true, want)
	tells(t, y, true, append(want, api.Asked{Place: other, Seq: 2, Op: put(1)}))
}

// An answer is new memory, with its spare room: neither what is done to it nor a later step changes another.
func TestNewMemoryP17_1(t *testing.T) {
	a, segs := newArena(t, 8)
	var want []api.Asked
	for slot := range 40 {
		own := placeIn(segs, slot)
		enter(a, own)
		ask(a, own, 1, number(put(slot)))
		want = append(want, api.Asked{Place: own, Seq: 1, Op: put(slot)})
	}
	wrong := api.Asked{Place: api.Place{Seg: 1, Slot: -1}, Seq: 77}
	g := New(a)
	for !g.Done() {
		was := g.Asked()
		full := was[:cap(was)]
		for i := range full {
			full[i] = wrong
		}
		g.Step()
		for i := range full {
			if full[i] != wrong {
				t.Fatalf("the answer with %d has changed", len(was))
			}
		}
	}
	tells(t, g, true, want)
}

// A machine that is nil does nothing, and is done.
func TestNilP17_1(t *testing.T) {
	var g *Gather
	for range 2 {
		tells(t, g, true, nil)
		g.Step()
	}
}

// Without an arena nothing is promised but an end, and no panic.
func TestNoArena(t *testing.T) {
	g := New(nil)
	toEnd(t, g)
	if g.Asked() != nil {
		t.Fatalf("%v", g.Asked())
	}
}
