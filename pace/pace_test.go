package pace

import (
	"math"
	"math/rand"
	"slices"
	"testing"

	"roundelay/api"
	"roundelay/arena"
)

func laidOut(t *testing.T, capacity int, l ...[]uint64) *arena.Arena {
	t.Helper()
	a, e := arena.New(capacity)
	if e != api.OK {
		t.Fatalf("New(%d): %d", capacity, e)
	}
	for _, words := range l {
		if _, e := a.Lay(words...); e != api.OK {
			t.Fatalf("Lay: %d", e)
		}
	}
	return a
}

func handle(birth, block uint64) uint64 { return birth*65536 + block }

func is(t *testing.T, what string, got []uint64, want ...uint64) {
	t.Helper()
	if !slices.Equal(got, want) {
		t.Fatalf("%s: %v, want %v", what, got, want)
	}
}

func errIs(t *testing.T, l *Lays, want api.Errno) {
	t.Helper()
	if l.Err() != want {
		t.Fatalf("Err: %d, want %d", l.Err(), want)
	}
}

func isTally(t *testing.T, a *arena.Arena, faults int, want api.Tally) {
	t.Helper()
	if a.Tally() != want || a.Faults() != faults {
		t.Fatalf("Tally %v, Faults %d, want %v, %d", a.Tally(), a.Faults(), want, faults)
	}
}

func TestReadsP4_2(t *testing.T) {
	a := laidOut(t, 9, []uint64{5, 6}, []uint64{7})
	a.Write(api.Addr{At: 8}, 9)
	tally := a.Tally()
	h := handle(1, 1)
	r := NewReads(a, api.Addr{Block: h, At: 1}, api.Addr{At: 8}, api.Addr{Block: h}, api.Addr{Block: h, At: 1}, api.Addr{Block: handle(2, 2)})
	want := []uint64{6, 9, 5, 6, 7}
	for n := range want {
		doneIs(t, r, false)
		is(t, "Words", r.Words(), want[:n]...)
		tally.Reads = n
		isTally(t, a, 0, tally)
		r.Step()
	}
	doneIs(t, r, true)
	is(t, "Words", r.Words(), want...)
	r.Step()
	is(t, "Words", r.Words(), want...)
	tally.Reads = 5
	isTally(t, a, 0, tally)
}

// What can't be read counts as 0, and the reads go on.
func TestReadsFaultsP4_2(t *testing.T) {
	a := laidOut(t, 9, []uint64{5, 6})
	h := handle(1, 1)
	r := NewReads(a, api.Addr{Block: h, At: 2}, api.Addr{Block: h, At: -1}, api.Addr{Block: h}, api.Addr{Block: 7}, api.Addr{At: 9}, api.Addr{At: math.MinInt}, api.Addr{Block: handle(2, 1)}, api.Addr{Block: h, At: 1})
	if n := steps(t, r); n != 8 {
		t.Errorf("%d Steps", n)
	}
	is(t, "Words", r.Words(), 0, 0, 5, 0, 0, 0, 0, 6)
	isTally(t, a, 6, api.Tally{Lays: 1, Reads: 2})
}

// What is read is as it is at its Step, not as it was when the machine was made.
func TestReadsLateP4_2(t *testing.T) {
	a := laidOut(t, 9, []uint64{5, 6})
	x := api.Addr{Block: handle(1, 1)}
	r := NewReads(a, x, x, x)
	a.Write(x, 7)
	r.Step()
	a.Write(x, 8)
	is(t, "Words", r.Words(), 7)
	r.Step()
	a.Free(x.Block)
	a.Lay(9, 9)
	r.Step()
	is(t, "Words", r.Words(), 7, 8, 0)
	doneIs(t, r, true)
}

func TestFreesP4_2(t *testing.T) {
	a := laidOut(t, 9, []uint64{1, 1}, []uint64{2}, []uint64{3, 3, 3})
	l := []uint64{handle(3, 3), handle(1, 1), handle(2, 2)}
	f := NewFrees(a, l...)
	for n := range l {
		doneIs(t, f, false)
		is(t, "Left", f.Left(), l[n:]...)
		if a.Len() != 3-n || a.Size(l[n]) == 0 {
			t.Fatalf("behind %d Steps: %d blocks, %d of %d words", n, a.Len(), a.Size(l[n]), l[n])
		}
		f.Step()
	}
	doneIs(t, f, true)
	is(t, "Left", f.Left())
	f.Step()
	isTally(t, a, 0, api.Tally{Lays: 3, Frees: 3})
}

// One that is gone already is passed, with a Step of its own.
func TestFreesFaultsP4_2(t *testing.T) {
	a := laidOut(t, 9, []uint64{1, 1}, []uint64{2})
	l := []uint64{0, handle(2, 2), handle(2, 2), 7, handle(1, 1), handle(3, 1), math.MaxUint64}
	f := NewFrees(a, l...)
	for n := range l {
		is(t, "Left", f.Left(), l[n:]...)
		doneIs(t, f, false)
		f.Step()
	}
	doneIs(t, f, true)
	is(t, "Left", f.Left())
	isTally(t, a, 5, api.Tally{Lays: 2, Frees: 2})
}

func TestLaysP4_2(t *testing.T) {
	a := laidOut(t, 9, []uint64{1})
	l := NewLays(a, []uint64{5, 6}, []uint64{7}, []uint64{0, 0, 0})
	want := []uint64{handle(2, 2), handle(3, 3), handle(4, 4)}
	for n := range want {
		doneIs(t, l, false)
		is(t, "Handles", l.Handles(), want[:n]...)
		errIs(t, l, api.OK)
		if a.Len() != n+1 {
			t.Fatalf("behind %d Steps: %d blocks", n, a.Len())
		}
		l.Step()
	}
	doneIs(t, l, true)
	is(t, "Handles", l.Handles(), want...)
	errIs(t, l, api.OK)
	l.Step()
	isTally(t, a, 0, api.Tally{Lays: 4})
	var words []uint64
	for _, w := range a.All() {
		words = append(words, w...)
	}
	is(t, "words", words, 1, 5, 6, 7, 0, 0, 0)
}

// One that isn't OK is the last one, whatever stands behind it.
func TestLaysRefusedP4_2(t *testing.T) {
	small, long := []uint64{1}, make([]uint64, 2049)
	for _, x := range []struct {
		bad  []uint64
		want api.Errno
	}{{nil, api.ErrArg}, {[]uint64{}, api.ErrArg}, {long, api.ErrArg}, {long[:9], api.ErrFull}} {
		for ahead := range 3 {
			a := laidOut(t, 10)
			rows := append(slices.Repeat([][]uint64{small}, ahead+1), x.bad, small, small)
			l := NewLays(a, rows...)
			a.Lay(small...)
			if n := steps(t, l); n != ahead+2 {
				t.Errorf("%d Steps, %d ahead", n, ahead)
			}
			errIs(t, l, x.want)
			if h := l.Handles(); len(h) != ahead+1 || h[ahead] != handle(uint64(ahead)+2, uint64(ahead)+2) {
				t.Errorf("Handles: %v", h)
			}
			l.Step()
			isTally(t, a, 0, api.Tally{Lays: ahead + 2})
			errIs(t, l, x.want)
		}
	}
}

// Whether there is room is told by the arena at the Step, not by the machine ahead of it.
func TestLaysLateP4_2(t *testing.T) {
	a := laidOut(t, 3, []uint64{1, 1, 1})
	l := NewLays(a, []uint64{2, 2}, []uint64{3})
	a.Free(handle(1, 1))
	l.Step()
	errIs(t, l, api.OK)
	a.Lay(9)
	l.Step()
	doneIs(t, l, true)
	errIs(t, l, api.ErrFull)
	is(t, "Handles", l.Handles(), handle(2, 1))
	a.Free(handle(2, 1))
	l.Step()
	errIs(t, l, api.ErrFull)
	is(t, "Handles", l.Handles(), handle(2, 1))
}

// A machine that has no access is done from the beginning on.
func TestNoAccessP4_3(t *testing.T) {
	a := laidOut(t, 9, []uint64{1})
	r, f, l := NewReads(a), NewFrees(a), NewLays(a)
	for _, m := range []Machine{r, f, l, NewReads(nil), NewFrees(nil), NewLays(nil), NewReads(a, []api.Addr{}...), NewLays(a, [][]uint64{}...)} {
		isNothing(t, m)
	}
	is(t, "Words", r.Words())
	is(t, "Left", f.Left())
	is(t, "Handles", l.Handles())
	errIs(t, l, api.OK)
	isTally(t, a, 0, api.Tally{Lays: 1})
}

func TestNilArenaP4_2(t *testing.T) {
	r := NewReads(nil, api.Addr{}, api.Addr{Block: 7, At: -1})
	r.Step()
	doneIs(t, r, false)
	is(t, "Words", r.Words(), 0)
	r.Step()
	isNothing(t, r)
	is(t, "Words", r.Words(), 0, 0)
	f := NewFrees(nil, 5, 6)
	f.Step()
	doneIs(t, f, false)
	is(t, "Left", f.Left(), 6)
	f.Step()
	isNothing(t, f)
	is(t, "Left", f.Left())
	l := NewLays(nil, []uint64{5}, []uint64{6})
	doneIs(t, l, false)
	l.Step()
	isNothing(t, l)
	is(t, "Handles", l.Handles())
	errIs(t, l, api.ErrNil)
}

func TestNilMachinesP4_2(t *testing.T) {
	var r *Reads
	var f *Frees
	var l *Lays
	for _, m := range []Machine{r, f, l} {
		isNothing(t, m)
	}
	is(t, "Words", r.Words())
	is(t, "Left", f.Left())
	is(t, "Handles", l.Handles())
	errIs(t, l, api.ErrNil)
}

// spoil changes a list, and its spare room.
func spoil(l []uint64) {
	l = l[:cap(l)]
	for i := range l {
		l[i] = 777
	}
}

// What is handed in is neither kept nor changed, and an answer is new memory.
func TestHandedInP4_2(t *testing.T) {
	a := laidOut(t, 20, []uint64{5, 6, 7})
	h := handle(1, 1)
	addrs := []api.Addr{{Block: h}, {Block: h, At: 1}, {Block: h, At: 2}}
	r := NewReads(a, addrs...)
	words := []uint64{8, 9, 10}
	rows := [][]uint64{words[:2], words[2:], {11}}
	l := NewLays(a, rows...)
	gone := make([]uint64, 3, 8)
	copy(gone, []uint64{h, 1, 2})
	f := NewFrees(a, gone...)
	r.Step()
	r.Step()
	l.Step()
	if !slices.Equal(addrs, []api.Addr{{Block: h}, {Block: h, At: 1}, {Block: h, At: 2}}) || !slices.Equal(words, []uint64{8, 9, 10}) || len(rows) != 3 || len(rows[0]) != 2 {
		t.Fatalf("changed: %v %v %v", addrs, words, rows)
	}
	addrs[2] = api.Addr{At: 8}
	spoil(words)
	rows[2] = nil
	spoil(gone)
	spoil(r.Words())
	spoil(f.Left())
	spoil(l.Handles())
	r.Step()
	is(t, "Words", r.Words(), 5, 6, 7)
	l.Step()
	l.Step()
	is(t, "Handles", l.Handles(), handle(2, 2), handle(3, 3), handle(4, 4))
	errIs(t, l, api.OK)
	var all []uint64
	for _, w := range a.All() {
		all = append(all, w...)
	}
	is(t, "words", all, 5, 6, 7, 8, 9, 10, 11)
	is(t, "Left", f.Left(), h, 1, 2)
	f.Step()
	is(t, "Left", f.Left(), 1, 2)
	if a.Size(h) != 0 || !slices.Equal(gone, []uint64{777, 777, 777}) {
		t.Errorf("%v, %v", a.Size(h), gone)
	}
	spoil(r.Words())
	is(t, "Words", r.Words(), 5, 6, 7)
	spoil(f.Left())
	is(t, "Left", f.Left(), 1, 2)
	spoil(l.Handles())
	is(t, "Handles", l.Handles(), handle(2, 2), handle(3, 3), handle(4, 4))
}

// twin is a machine on an arena, and the same accesses, done one by one, on another one.
type twin struct {
	t    *testing.T
	r    *rand.Rand
	a, b *arena.Arena
}

// disturb does the same to both arenas, as others do between two Steps.
func (w *twin) disturb() {
	for range w.r.Intn(4) {
		h, at, words := w.some(), w.r.Intn(4)-1, make([]uint64, w.r.Intn(5))
		kind, n := w.r.Intn(4), w.r.Uint64()>>w.r.Intn(64)
		for _, a := range []*arena.Arena{w.a, w.b} {
			switch kind {
			case 0:
				a.Lay(words...)
			case 1:
				a.Free(h)
			case 2:
				a.Add(api.Addr{Block: h, At: at}, n)
			default:
				a.Add(api.Addr{At: at}, n)
			}
		}
	}
}

// some handle: mostly of a block that lives.
func (w *twin) some() uint64 {
	l := []uint64{0, 7, handle(1, 1)}
	for h := range w.a.All() {
		l = append(l, h)
	}
	return l[w.r.Intn(len(l))]
}

// agree holds the arenas against one another.
func (w *twin) agree() {
	w.t.Helper()
	if !arena.Same(w.a, w.b) || w.a.Tally() != w.b.Tally() || w.a.Faults() != w.b.Faults() {
		w.t.Fatalf("Tally %v, Faults %d, want %v, %d", w.a.Tally(), w.a.Faults(), w.b.Tally(), w.b.Faults())
	}
}

// walk takes the machine through so many Steps, each of which has to do what one access does.
func (w *twin) walk(m Machine, n int, access func(i int), tells func(i int)) {
	w.t.Helper()
	var g Gear
	then := 0
	g.Run(m, func() { then++ })
	for i := range n {
		w.disturb()
		doneIs(w.t, m, false)
		doneIs(w.t, &g, false)
		tells(i)
		access(i)
		g.Step()
		w.agree()
	}
	tells(n)
	doneIs(w.t, &g, true)
	isNothing(w.t, m)
	w.agree()
	if then != 1 {
		w.t.Fatalf("then was called %d times", then)
	}
}

func (w *twin) reads() {
	l := make([]api.Addr, w.r.Intn(7))
	for i := range l {
		l[i] = api.Addr{Block: w.some(), At: w.r.Intn(5) - 1}
	}
	var words []uint64
	m := NewReads(w.a, l...)
	w.walk(m, len(l), func(i int) {
		n, _ := w.b.Read(l[i])
		words = append(words, n)
	}, func(int) { is(w.t, "Words", m.Words(), words...) })
}

func (w *twin) frees() {
	l := make([]uint64, w.r.Intn(7))
	for i := range l {
		l[i] = w.some()
	}
	m := NewFrees(w.a, l...)
	w.walk(m, len(l), func(i int) { w.b.Free(l[i]) }, func(i int) { is(w.t, "Left", m.Left(), l[i:]...) })
}

// lays can't be told how many Steps there will be: the plain one goes on as long as its Lays are OK.
func (w *twin) lays() {
	l := make([][]uint64, w.r.Intn(7))
	for i := range l {
		l[i] = make([]uint64, w.r.Intn(12))
		for j := range l[i] {
			l[i][j] = w.r.Uint64()
		}
	}
	var handles []uint64
	err := api.OK
	m := NewLays(w.a, l...)
	for i := 0; i < len(l) && err == api.OK; i++ {
		w.disturb()
		doneIs(w.t, m, false)
		var h uint64
		h, err = w.b.Lay(l[i]...)
		if err == api.OK {
			handles = append(handles, h)
		}
		m.Step()
		w.agree()
		is(w.t, "Handles", m.Handles(), handles...)
		errIs(w.t, m, err)
	}
	isNothing(w.t, m)
	w.agree()
	is(w.t, "Handles", m.Handles(), handles...)
}

// Each Step is one access, the next one, whatever others do between; the seed is fixed, so that each run sees the same.
func TestWalkP4_3(t *testing.T) {
	r := rand.New(rand.NewSource(1))
	for range 300 {
		a := laidOut(t, 30, []uint64{1, 2}, []uint64{3}, []uint64{4, 5, 6})
		w := &twin{t, r, a, a.Clone()}
		for range 10 {
			switch r.Intn(3) {
			case 0:
				w.reads()
			case 1:
				w.frees()
			default:
				w.lays()
			}
		}
	}
}

// Many of one kind at a time don't touch one another.
func TestApartP4_3(t *testing.T) {
	a := laidOut(t, 100, []uint64{1, 2, 3})
	h := handle(1, 1)
	var l []*Reads
	for n := range 5 {
		addrs := make([]api.Addr, n)
		for i := range addrs {
			addrs[i] = api.Addr{Block: h, At: (n + i) % 3}
		}
		l = append(l, NewReads(a, addrs...))
	}
	for round := range 6 {
		for n, r := range l {
			doneIs(t, r, round >= n)
			r.Step()
			if len(r.Words()) != min(round+1, n) {
				t.Fatalf("reads %d: %v behind %d Steps", n, r.Words(), round+1)
			}
		}
	}
	is(t, "Words", l[4].Words(), 2, 3, 1, 2)
	is(t, "Words", l[3].Words(), 1, 2, 3)
	is(t, "Words", l[2].Words(), 3, 1)
}
