package claim

import (
	"math"
	"math/rand"
	"slices"
	"testing"

	"roundelay/api"
	"roundelay/arena"
	"roundelay/dir"
	"roundelay/pace"
)

// enough words for all eight segments.
const enough = 1785

func newArena(t *testing.T, capacity int) *arena.Arena {
	t.Helper()
	a, err := arena.New(capacity)
	if err != api.OK {
		t.Fatalf("New(%d): %d", capacity, err)
	}
	return a
}

// refused is what a step did that changed no count at all: a Lay that had an error.
const refused = "-"

// did takes a machine one step on, and tells which accesses that were.
func did(a *arena.Arena, m pace.Machine) string {
	was, faults := a.Tally(), a.Faults()
	m.Step()
	is := a.Tally()
	s := ""
	for _, x := range []struct {
		letter string
		n      int
	}{
		{"l", is.Lays - was.Lays},
		{"f", is.Frees - was.Frees},
		{"r", is.Reads - was.Reads},
		{"w", is.Writes - was.Writes},
		{"s", is.Swaps - was.Swaps},
		{"a", is.Adds - was.Adds},
		{"!", a.Faults() - faults},
	} {
		for range x.n {
			s += x.letter
		}
	}
	if s == "" {
		return refused
	}
	return s
}

// row of all accesses of a machine, to its end; each step has to be one.
func row(t *testing.T, a *arena.Arena, m pace.Machine) string {
	t.Helper()
	s := ""
	for !m.Done() {
		x := did(a, m)
		if len(x) != 1 {
			t.Fatalf("one step did %q", x)
		}
		s += x
		if len(s) > 1000 {
			t.Fatal("it is never done")
		}
	}
	return s
}

// claimed goes to the end of a claim that has to get a slot.
func claimed(t *testing.T, a *arena.Arena, token uint64) api.Place {
	t.Helper()
	c := New(a, token)
	row(t, a, c)
	p, ok := c.Place()
	if !ok || c.Err() != api.OK {
		t.Fatalf("claim for %d: error %d", token, c.Err())
	}
	return p
}

// tells holds all that a claim tells against what it has to.
func tells(t *testing.T, c *Claim, done bool, place api.Place, ok bool, err api.Errno, private ...uint64) {
	t.Helper()
	p, has := c.Place()
	if c.Done() != done || p != place || has != ok || c.Err() != err || !slices.Equal(c.Private(), private) {
		t.Fatalf("done %t, place %v %t, error %d, private %v; want %t, %v %t, %d, %v", c.Done(), p, has, c.Err(), c.Private(), done, place, ok, err, private)
	}
}

func goingOn(t *testing.T, c *Claim, private ...uint64) {
	t.Helper()
	tells(t, c, false, api.Place{}, false, api.OK, private...)
}

func got(t *testing.T, c *Claim, place api.Place) {
	t.Helper()
	tells(t, c, true, place, true, api.OK)
}

func failed(t *testing.T, c *Claim, err api.Errno) {
	t.Helper()
	tells(t, c, true, api.Place{}, false, err)
}

// step which has to be that access.
func step(t *testing.T, a *arena.Arena, c *Claim, want string) {
	t.Helper()
	if s := did(a, c); s != want {
		t.Fatalf("one step did %q, want %q", s, want)
	}
}

// isFixed: the fixed words of the segments; those behind them have to be 0.
func isFixed(t *testing.T, a *arena.Arena, want ...uint64) {
	t.Helper()
	l := make([]uint64, api.Fixed)
	copy(l[1:], want)
	if !slices.Equal(a.Words(), l) {
		t.Fatalf("fixed words %v, want %v", a.Words(), l)
	}
}

func isBlock(t *testing.T, a *arena.Arena, h uint64, want ...uint64) {
	t.Helper()
	for x, words := range a.All() {
		if x == h && slices.Equal(words, want) {
			return
		}
	}
	t.Fatalf("no block %d with the words %v", h, want)
}

func isSame(t *testing.T, a, b *arena.Arena) {
	t.Helper()
	if !arena.Same(a, b) || a.Tally() != b.Tally() || a.Faults() != b.Faults() {
		t.Fatalf("arenas: tallies %v and %v, faults %d and %d", a.Tally(), b.Tally(), a.Faults(), b.Faults())
	}
}

// One who is alone: a read, a block, two swaps.
func TestAloneP11_1(t *testing.T) {
	a := newArena(t, enough)
	c := New(a, 5)
	isSame(t, a, newArena(t, enough))
	goingOn(t, c)
	step(t, a, c, "r")
	goingOn(t, c)
	step(t, a, c, "l")
	goingOn(t, c, 65537)
	isFixed(t, a)
	isBlock(t, a, 65537, 0, 0, 0, 0, 0, 0, 0)
	step(t, a, c, "s")
	goingOn(t, c)
	isFixed(t, a, 65537)
	step(t, a, c, "s")
	place := api.Place{Seg: 65537, Slot: 0}
	got(t, c, place)
	isBlock(t, a, 65537, 5, 0, 0, 0, 0, 0, 0)
	was := a.Clone()
	c.Step()
	got(t, c, place)
	isSame(t, a, was)
}

// Three claims, one behind the other: only who comes to a segment first lays it.
func TestThreeP11_1(t *testing.T) {
	a := newArena(t, enough)
	rows := []string{"rlss", "rsrlss", "rsrss", "rsrssrlss"}
	segs := []uint64{65537, 131074, 131074, 196611}
	for slot, want := range rows {
		c := New(a, uint64(slot)+5)
		if s := row(t, a, c); s != want {
			t.Fatalf("claim %d did %q, want %q", slot, s, want)
		}
		got(t, c, api.Place{Seg: segs[slot], Slot: slot})
	}
	isFixed(t, a, 65537, 131074, 196611)
	isBlock(t, a, 65537, 5, 0, 0, 0, 0, 0, 0)
	isBlock(t, a, 131074, 6, 0, 0, 0, 0, 7, 0, 0, 0, 0, 0, 0, 0, 0)
	isBlock(t, a, 196611, append([]uint64{8}, make([]uint64, 27)...)...)
}

// Who comes too late with a segment frees it, and takes the other one's.
func TestTooLateP11_1(t *testing.T) {
	a := newArena(t, enough)
	b, c := New(a, 7), New(a, 8)
	step(t, a, b, "r")
	step(t, a, c, "r")
	step(t, a, b, "l")
	step(t, a, c, "l")
	goingOn(t, b, 65537)
	goingOn(t, c, 131074)
	step(t, a, c, "s")
	goingOn(t, c)
	step(t, a, b, "s")
	goingOn(t, b, 65537)
	isFixed(t, a, 131074)
	step(t, a, b, "f")
	goingOn(t, b)
	if a.Size(65537) != 0 || a.Used() != 7 {
		t.Fatalf("%d words used", a.Used())
	}
	step(t, a, b, "r")
	goingOn(t, b)
	step(t, a, b, "s")
	got(t, b, api.Place{Seg: 131074, Slot: 0})
	step(t, a, c, "s")
	goingOn(t, c)
	if s := row(t, a, c); s != "rlss" {
		t.Fatalf("behind the slot 0: %q", s)
	}
	got(t, c, api.Place{Seg: 196609, Slot: 1})
}

// Too late once more, and once more: as long as the fixed word is read as 0, and isn't 0 any more at the swap.
func TestTooLateAgainP11_1(t *testing.T) {
	a := newArena(t, enough)
	fixed := api.Addr{At: 1}
	c := New(a, 7)
	for range 4 {
		a.Write(fixed, 0)
		step(t, a, c, "r")
		step(t, a, c, "l")
		private := c.Private()
		if len(private) != 1 || a.Size(private[0]) != 7 {
			t.Fatalf("private %v", private)
		}
		a.Write(fixed, 9)
		step(t, a, c, "s")
		goingOn(t, c, private...)
		step(t, a, c, "f")
		goingOn(t, c)
		if a.Len() != 0 {
			t.Fatalf("%d blocks", a.Len())
		}
	}
	h, _ := a.Lay(make([]uint64, 7)...)
	a.Write(fixed, h)
	if s := row(t, a, c); s != "rs" {
		t.Fatalf("at last: %q", s)
	}
	got(t, c, api.Place{Seg: h, Slot: 0})
}

// All slots, in order, each in its segment; then there is none.
func TestAllP11_1(t *testing.T) {
	a := newArena(t, enough)
	for slot := range 255 {
		p := claimed(t, a, uint64(slot)+1000)
		g, _, _ := dir.Segment(slot)
		if p.Slot != slot || p.Seg == 0 || p.Seg != a.Words()[1+g] || a.Size(p.Seg) != dir.Size(g) {
			t.Fatalf("claim %d: %v", slot, p)
		}
	}
	if a.Used() != enough || a.Len() != 8 || a.Faults() != 0 {
		t.Fatalf("%d words, %d blocks, %d faults", a.Used(), a.Len(), a.Faults())
	}
	for slot := range 255 {
		g, offset, _ := dir.Segment(slot)
		if w, _ := a.Read(api.Addr{Block: a.Words()[1+g], At: 5 * offset}); w != uint64(slot)+1000 {
			t.Fatalf("slot %d is owned by %d", slot, w)
		}
	}
	was := a.Clone()
	c := New(a, 1)
	want := ""
	for g := range 8 {
		want += "r"
		for range 1 << g {
			want += "s"
		}
	}
	if s := row(t, a, c); s != want {
		t.Fatalf("without a free slot: %q", s)
	}
	failed(t, c, api.ErrLong)
	if !arena.Same(a, was) {
		t.Fatal("it changed something")
	}
	c.Step()
	failed(t, c, api.ErrLong)
	for _, slot := range []int{254, 0, 3, 126, 127, 253} {
		g, offset, _ := dir.Segment(slot)
		a.Write(api.Addr{Block: a.Words()[1+g], At: 5 * offset}, 0)
		if p := claimed(t, a, 1); p.Slot != slot {
			t.Fatalf("the slot %d alone is free: %v", slot, p)
		}
	}
}

// Without room for a segment a claim ends with the error of its Lay; with just enough it goes on.
func TestNoRoomP11_1(t *testing.T) {
	for g := range 8 {
		first := 1<<g - 1
		need := 7 * (first + first + 1)
		for _, short := range []int{1, 2, 7 << g} {
			a := newArena(t, need-short)
			for slot := range first {
				claimed(t, a, uint64(slot)+1)
			}
			was := a.Clone()
			c := New(a, 9)
			s := row(t, a, c)
			if len(s) != g+first+2 || s[len(s)-2:] != "r"+refused {
				t.Fatalf("segment %d: %q", g, s)
			}
			failed(t, c, api.ErrFull)
			if !arena.Same(a, was) {
				t.Fatalf("segment %d: it changed something", g)
			}
			c.Step()
			failed(t, c, api.ErrFull)
		}
		a := newArena(t, need)
		for slot := range first + 1 {
			if p := claimed(t, a, 9); p.Slot != slot {
				t.Fatalf("segment %d: %v, want the slot %d", g, p, slot)
			}
		}
	}
}

// One claim's private block leaves no room for the other one's.
func TestNoRoomForTwoP11_1(t *testing.T) {
	a := newArena(t, 13)
	b, c := New(a, 7), New(a, 8)
	step(t, a, b, "r")
	step(t, a, b, "l")
	if s := row(t, a, c); s != "r"+refused {
		t.Fatalf("it did %q", s)
	}
	failed(t, c, api.ErrFull)
	goingOn(t, b, 65537)
	if s := row(t, a, b); s != "ss" {
		t.Fatalf("it did %q", s)
	}
	got(t, b, api.Place{Seg: 65537, Slot: 0})
}

func TestTokensP11_1(t *testing.T) {
	a := newArena(t, enough)
	was := a.Clone()
	c := New(a, 0)
	failed(t, c, api.ErrArg)
	c.Step()
	failed(t, c, api.ErrArg)
	isSame(t, a, was)
	// Alike tokens don't make alike slots.
	for slot, token := range []uint64{1, 1, math.MaxUint64, math.MaxUint64, 1 << 63, 65537, 1} {
		p := claimed(t, a, token)
		x, _ := dir.Word(p, api.Own)
		if w, _ := a.Read(x); p.Slot != slot || w != token {
			t.Fatalf("token %d: %v, owned by %d", token, p, w)
		}
	}
}

// What is told of the past stays so, and is new memory.
func TestStaysP11_1(t *testing.T) {
	a := newArena(t, enough)
	c := New(a, 5)
	c.Step()
	c.Step()
	l := c.Private()
	_ = append(l[:0], 9)
	clear(l[:cap(l)])
	goingOn(t, c, 65537)
	c.Step()
	isFixed(t, a, 65537)
	c.Step()
	place := api.Place{Seg: 65537, Slot: 0}
	got(t, c, place)
	a.Write(api.Addr{Block: 65537}, 0)
	claimed(t, a, 6)
	a.Write(api.Addr{At: 1}, 0)
	a.Free(65537)
	got(t, c, place)
	was := a.Clone()
	c.Step()
	got(t, c, place)
	isSame(t, a, was)
}

// No other word than Own is looked at or changed.
func TestOwnAloneP11_1(t *testing.T) {
	a := newArena(t, enough)
	l := make([][]uint64, 3)
	for g := range l {
		for n := range dir.Size(g) {
			l[g] = append(l[g], uint64(n)+100)
		}
		h, _ := a.Lay(l[g]...)
		a.Write(dir.Fixed(g), h)
	}
	p := api.Place{Seg: a.Words()[3], Slot: 5}
	x, _ := dir.Word(p, api.Own)
	a.Write(x, 0)
	was := a.Clone()
	if is := claimed(t, a, 7); is != p {
		t.Fatalf("%v, want %v", is, p)
	}
	was.Write(x, 7)
	if !arena.Same(a, was) {
		t.Fatal("it changed something else")
	}
}

func TestNil(t *testing.T) {
	var c *Claim
	tells(t, c, true, api.Place{}, false, api.OK)
	c.Step()
	tells(t, c, true, api.Place{}, false, api.OK)
	failed(t, New(nil, 0), api.ErrArg)
	c = New(nil, 1)
	for range 2 {
		goingOn(t, c)
		c.Step()
	}
	failed(t, c, api.ErrNil)
}

// twin is a claim in one arena, and the plain one in another that is its like.
type twin struct {
	t    *testing.T
	r    *rand.Rand
	a, b *arena.Arena
	c    *Claim
	p    *plain
}

// both arenas have the same done to them.
func (w *twin) both(do func(a *arena.Arena)) {
	do(w.a)
	do(w.b)
}

// some handle: of a block, of none, or that of what is private.
func (w *twin) some() uint64 {
	l := append(w.c.Private(), 0, 7, 65537)
	for h := range w.a.All() {
		l = append(l, h)
	}
	return l[w.r.Intn(len(l))]
}

// disturb as others may between two steps, those too that go by no rule.
func (w *twin) disturb() {
	h, g, n, word := w.some(), w.r.Intn(8), w.r.Intn(128), uint64(w.r.Intn(2))
	switch w.r.Intn(12) {
	case 0:
		w.both(func(a *arena.Arena) { a.Write(api.Addr{At: 1 + g%3}, h) })
	case 1:
		w.both(func(a *arena.Arena) { a.Swap(api.Addr{At: 1 + g}, 0, h) })
	case 2, 3, 4:
		w.both(func(a *arena.Arena) { a.Write(api.Addr{Block: a.Words()[1+g], At: 5 * (n % (1 << g))}, word) })
	case 5:
		w.both(func(a *arena.Arena) { a.Lay(make([]uint64, 1+n)...) })
	case 6:
		if n < 32 {
			w.both(func(a *arena.Arena) { a.Free(h) })
		}
	}
}

// begin with some segments, some of whose slots are owned.
func (w *twin) begin() {
	full := w.r.Intn(2) == 0
	for g := range min(w.r.Intn(13), 8) {
		words := make([]uint64, 7<<g)
		for i := range 1 << g {
			if full || w.r.Intn(40) > 0 {
				words[5*i] = w.r.Uint64() | 1
			}
		}
		w.both(func(a *arena.Arena) {
			h, _ := a.Lay(words...)
			a.Write(api.Addr{At: 1 + g}, h)
		})
	}
}

func (w *twin) agree() {
	w.t.Helper()
	isSame(w.t, w.a, w.b)
	tells(w.t, w.c, w.p.done, w.p.place, w.p.claimed, w.p.err, w.p.private...)
}

// Each step is the next access of the plain claim, whatever others do between, and tells the same; the seed is fixed, so that each run sees the same.
func TestWalkP11_1(t *testing.T) {
	r := rand.New(rand.NewSource(1))
	ends := map[api.Errno]int{}
	for range 3000 {
		capacity := enough + 600
		if r.Intn(2) > 0 {
			capacity = r.Intn(capacity)
		}
		a := newArena(t, capacity)
		w := &twin{t: t, r: r, a: a, b: a.Clone()}
		w.begin()
		token := uint64(r.Intn(6))
		w.c, w.p = New(w.a, token), newPlain(t, w.b, token)
		busy := r.Intn(3)
		for !w.p.done {
			if busy > 0 && r.Intn(busy) == 0 {
				w.disturb()
			}
			w.agree()
			w.c.Step()
			w.p.step()
		}
		w.agree()
		w.disturb()
		w.c.Step()
		w.agree()
		ends[w.c.Err()]++
	}
	for _, err := range []api.Errno{api.OK, api.ErrArg, api.ErrLong, api.ErrFull} {
		if ends[err] < 50 {
			t.Errorf("%d claims ended with the error %d", ends[err], err)
		}
	}
}
