package arena

import (
	"math"
	"slices"
	"testing"

	"roundelay/api"
)

const (
	mostWords = 60000
	mostLay   = 2048
	mostBirth = 268435455
	mostWord  = 1<<64 - 1
)

func arena(t *testing.T, capacity int) *Arena {
	t.Helper()
	a, e := New(capacity)
	if a == nil || e != api.OK {
		t.Fatalf("New(%d): %v %d", capacity, a, e)
	}
	return a
}

func laid(t *testing.T, a *Arena, want uint64, words ...uint64) {
	t.Helper()
	if h, e := a.Lay(words...); h != want || e != api.OK {
		t.Fatalf("Lay of %d: %d %d, want %d 0", len(words), h, e, want)
	}
}

func refused(t *testing.T, a *Arena, want api.Errno, words ...uint64) {
	t.Helper()
	if h, e := a.Lay(words...); h != 0 || e != want {
		t.Fatalf("Lay of %d: %d %d, want 0 %d", len(words), h, e, want)
	}
}

func freed(t *testing.T, a *Arena, h uint64, want api.Errno) {
	t.Helper()
	if e := a.Free(h); e != want {
		t.Fatalf("Free(%d): %d, want %d", h, e, want)
	}
}

func isRead(t *testing.T, a *Arena, x api.Addr, want uint64) {
	t.Helper()
	if w, e := a.Read(x); w != want || e != api.OK {
		t.Fatalf("Read(%v): %d %d, want %d 0", x, w, e, want)
	}
}

func written(t *testing.T, a *Arena, x api.Addr, w uint64) {
	t.Helper()
	if e := a.Write(x, w); e != api.OK {
		t.Fatalf("Write(%v, %d): %d", x, w, e)
	}
}

func swapped(t *testing.T, a *Arena, x api.Addr, old, fresh uint64, want bool) {
	t.Helper()
	if did, e := a.Swap(x, old, fresh); did != want || e != api.OK {
		t.Fatalf("Swap(%v, %d, %d): %v %d, want %v 0", x, old, fresh, did, e, want)
	}
}

func added(t *testing.T, a *Arena, x api.Addr, n, want uint64) {
	t.Helper()
	if was, e := a.Add(x, n); was != want || e != api.OK {
		t.Fatalf("Add(%v, %d): %d %d, want %d 0", x, n, was, e, want)
	}
}

// nothing is what all four accesses to a word have to tell, beside this error.
func nothing(t *testing.T, a *Arena, x api.Addr, want api.Errno) {
	t.Helper()
	if w, e := a.Read(x); w != 0 || e != want {
		t.Errorf("Read(%v): %d %d, want 0 %d", x, w, e, want)
	}
	if e := a.Write(x, 9); e != want {
		t.Errorf("Write(%v): %d, want %d", x, e, want)
	}
	for _, old := range []uint64{0, 1, 9} {
		if did, e := a.Swap(x, old, 9); did || e != want {
			t.Errorf("Swap(%v): %v %d, want false %d", x, did, e, want)
		}
	}
	if was, e := a.Add(x, 9); was != 0 || e != want {
		t.Errorf("Add(%v): %d %d, want 0 %d", x, was, e, want)
	}
}

func room(t *testing.T, a *Arena, used, peak, blocks int) {
	t.Helper()
	if a.Used() != used || a.Peak() != peak || a.Len() != blocks {
		t.Fatalf("Used %d, Peak %d, Len %d, want %d, %d, %d", a.Used(), a.Peak(), a.Len(), used, peak, blocks)
	}
}

func counts(t *testing.T, a *Arena, faults int, want api.Tally) {
	t.Helper()
	if a.Faults() != faults || a.Tally() != want {
		t.Fatalf("Faults %d, Tally %v, want %d, %v", a.Faults(), a.Tally(), faults, want)
	}
}

func handles(a *Arena) []uint64 {
	var l []uint64
	for h := range a.All() {
		l = append(l, h)
	}
	return l
}

func blocks(t *testing.T, a *Arena, want ...uint64) {
	t.Helper()
	if l := handles(a); !slices.Equal(l, want) {
		t.Fatalf("All: %v, want %v", l, want)
	}
}

func handle(birth, block uint64) uint64 { return birth*65536 + block }

// odd are words that are no handle of any block that these tests lay.
func odd() []uint64 {
	return []uint64{1, 2, 65535, 65536, 131072, handle(999, 1), handle(1, 999), handle(mostBirth, 65535), handle(mostBirth+1, 1), handle(mostBirth+2, 1), 1<<63 + 65537, mostWord}
}

func TestNewP3_1(t *testing.T) {
	for _, capacity := range []int{-1, -2, -60000, mostWords + 1, mostWords + 2, 65535, 1 << 20, 1 << 32, 1<<32 + 1, math.MaxInt, math.MinInt} {
		if a, e := New(capacity); a != nil || e != api.ErrArg {
			t.Errorf("New(%d): %v %d", capacity, a, e)
		}
	}
	for _, capacity := range []int{0, 1, 2, 100, mostWords - 1, mostWords} {
		a := arena(t, capacity)
		if a.Capacity() != capacity {
			t.Errorf("Capacity %d, want %d", a.Capacity(), capacity)
		}
		room(t, a, 0, 0, 0)
		counts(t, a, 0, api.Tally{})
		blocks(t, a)
		if !slices.Equal(a.Words(), make([]uint64, 9)) {
			t.Errorf("Words %v", a.Words())
		}
	}
}

func TestExampleP3(t *testing.T) {
	a := arena(t, 100)
	laid(t, a, 65537, 5, 6)
	x := api.Addr{Block: 65537, At: 1}
	added(t, a, x, 3, 6)
	isRead(t, a, x, 9)
	freed(t, a, 65537, api.OK)
	nothing(t, a, x, api.ErrGone)
}

func TestLayP3_1(t *testing.T) {
	a := arena(t, 20)
	laid(t, a, handle(1, 1), 7)
	laid(t, a, handle(2, 2), 0, 0, 0)
	laid(t, a, handle(3, 3), 1, 2)
	room(t, a, 6, 6, 3)
	for h, size := range map[uint64]int{handle(1, 1): 1, handle(2, 2): 3, handle(3, 3): 2} {
		if a.Size(h) != size {
			t.Errorf("Size(%d): %d, want %d", h, a.Size(h), size)
		}
	}
	for at, want := range []uint64{1, 2} {
		isRead(t, a, api.Addr{Block: handle(3, 3), At: at}, want)
	}
	freed(t, a, handle(3, 3), api.OK)
	freed(t, a, handle(1, 1), api.OK)
	laid(t, a, handle(4, 1), 5, 5, 5, 5)
	laid(t, a, handle(5, 3), 5)
	laid(t, a, handle(6, 4), 5)
	room(t, a, 9, 9, 4)
	blocks(t, a, handle(4, 1), handle(2, 2), handle(5, 3), handle(6, 4))
}

func TestLayEdgesP3_1(t *testing.T) {
	a := arena(t, mostWords)
	refused(t, a, api.ErrArg)
	refused(t, a, api.ErrArg, []uint64{}...)
	refused(t, a, api.ErrArg, make([]uint64, mostLay+1)...)
	refused(t, a, api.ErrArg, make([]uint64, mostWords)...)
	laid(t, a, handle(1, 1), make([]uint64, mostLay)...)
	laid(t, a, handle(2, 2), make([]uint64, mostLay-1)...)
	room(t, a, 2*mostLay-1, 2*mostLay-1, 2)
	if a.Size(handle(1, 1)) != mostLay {
		t.Errorf("Size %d", a.Size(handle(1, 1)))
	}
	counts(t, a, 0, api.Tally{Lays: 2})
}

// Where both apply, what may not be at all comes ahead of what has no room.
func TestLayOrderP3_1(t *testing.T) {
	a := arena(t, 1)
	refused(t, a, api.ErrArg, make([]uint64, mostLay+1)...)
	refused(t, a, api.ErrFull, make([]uint64, mostLay)...)
	refused(t, a, api.ErrFull, 1, 2)
	laid(t, a, handle(1, 1), 1)
	refused(t, a, api.ErrArg)
	refused(t, a, api.ErrFull, 1)
	a.births = mostBirth
	refused(t, a, api.ErrArg)
	refused(t, a, api.ErrFull, 1)
	freed(t, a, handle(1, 1), api.OK)
	refused(t, a, api.ErrSpent, 1)
	refused(t, a, api.ErrFull, 1, 2)
	refused(t, a, api.ErrArg, make([]uint64, mostLay+1)...)
}

func TestFullP3_1(t *testing.T) {
	a := arena(t, 0)
	refused(t, a, api.ErrFull, 1)
	a = arena(t, 10)
	refused(t, a, api.ErrFull, make([]uint64, 11)...)
	laid(t, a, handle(1, 1), make([]uint64, 10)...)
	refused(t, a, api.ErrFull, 1)
	room(t, a, 10, 10, 1)
	freed(t, a, handle(1, 1), api.OK)
	laid(t, a, handle(2, 1), make([]uint64, 6)...)
	refused(t, a, api.ErrFull, make([]uint64, 5)...)
	laid(t, a, handle(3, 2), make([]uint64, 4)...)
	refused(t, a, api.ErrFull, 1)
	freed(t, a, handle(2, 1), api.OK)
	refused(t, a, api.ErrFull, make([]uint64, 7)...)
	room(t, a, 4, 10, 1)
	laid(t, a, handle(4, 1), 1)
	room(t, a, 5, 10, 2)
	// What was refused has taken neither a birth nor a number, nor is it a fault.
	counts(t, a, 0, api.Tally{Lays: 4, Frees: 2})
}

func TestMostBlocksP3_1(t *testing.T) {
	a := arena(t, mostWords)
	for n := uint64(1); n <= mostWords; n++ {
		laid(t, a, handle(n, n), n)
	}
	refused(t, a, api.ErrFull, 1)
	room(t, a, mostWords, mostWords, mostWords)
	for n := uint64(1); n <= mostWords; n += 100 {
		isRead(t, a, api.Addr{Block: handle(n, n)}, n)
	}
	freed(t, a, handle(500, 500), api.OK)
	freed(t, a, handle(40, 40), api.OK)
	laid(t, a, handle(mostWords+1, 40), 3)
	laid(t, a, handle(mostWords+2, 500), 3)
	refused(t, a, api.ErrFull, 1)
}

// The births are set here: to lay as many blocks one by one would take too long.
func TestSpentP3_1(t *testing.T) {
	a := arena(t, 50)
	a.births = mostBirth - 2
	laid(t, a, handle(mostBirth-1, 1), 1)
	c := a.Clone()
	laid(t, a, handle(mostBirth, 2), 2)
	for range 3 {
		refused(t, a, api.ErrSpent, 1)
	}
	freed(t, a, handle(mostBirth-1, 1), api.OK)
	refused(t, a, api.ErrSpent, 1)
	isRead(t, a, api.Addr{Block: handle(mostBirth, 2)}, 2)
	room(t, a, 1, 2, 1)
	counts(t, a, 0, api.Tally{Lays: 2, Frees: 1, Reads: 1})
	laid(t, c, handle(mostBirth, 2), 3)
	refused(t, c, api.ErrSpent, 1)
}

func TestLaidWordsAreNotKeptP3_1(t *testing.T) {
	a := arena(t, 50)
	l := append(make([]uint64, 0, 10), 1, 2, 3)
	laid(t, a, handle(1, 1), l...)
	l[1] = 8
	isRead(t, a, api.Addr{Block: handle(1, 1), At: 1}, 2)
	written(t, a, api.Addr{Block: handle(1, 1), At: 0}, 9)
	if !slices.Equal(l[:10], []uint64{1, 8, 3, 0, 0, 0, 0, 0, 0, 0}) {
		t.Errorf("what was handed in is %v now", l[:10])
	}
}

func TestFreeP3_1(t *testing.T) {
	a := arena(t, 50)
	freed(t, a, handle(1, 1), api.ErrGone)
	laid(t, a, handle(1, 1), 1)
	laid(t, a, handle(2, 2), 2, 2)
	l := append(odd(), 0, handle(1, 2), handle(2, 1), handle(3, 3), handle(0, 1))
	for _, h := range l {
		freed(t, a, h, api.ErrGone)
		if a.Size(h) != 0 {
			t.Errorf("Size(%d): %d", h, a.Size(h))
		}
	}
	room(t, a, 3, 3, 2)
	blocks(t, a, handle(1, 1), handle(2, 2))
	freed(t, a, handle(1, 1), api.OK)
	freed(t, a, handle(1, 1), api.ErrGone)
	room(t, a, 2, 3, 1)
	if a.Size(handle(1, 1)) != 0 || a.Size(handle(2, 2)) != 2 {
		t.Errorf("Size %d, %d", a.Size(handle(1, 1)), a.Size(handle(2, 2)))
	}
	laid(t, a, handle(3, 1), 5)
	freed(t, a, handle(1, 1), api.ErrGone)
	isRead(t, a, api.Addr{Block: handle(3, 1)}, 5)
	counts(t, a, len(l)+3, api.Tally{Lays: 3, Frees: 1, Reads: 1})
}

func TestWordsP3_2(t *testing.T) {
	a := arena(t, 50)
	laid(t, a, handle(1, 1), 5, 6, 7)
	laid(t, a, handle(2, 2), 8)
	for _, x := range []api.Addr{{At: 0}, {At: 4}, {At: 8}, {Block: handle(1, 1)}, {Block: handle(1, 1), At: 2}, {Block: handle(2, 2)}} {
		written(t, a, x, 0)
		isRead(t, a, x, 0)
		written(t, a, x, mostWord)
		isRead(t, a, x, mostWord)
		isRead(t, a, x, mostWord)
		swapped(t, a, x, 3, 4, false)
		isRead(t, a, x, mostWord)
		swapped(t, a, x, mostWord, 4, true)
		isRead(t, a, x, 4)
		swapped(t, a, x, 4, 4, true)
		isRead(t, a, x, 4)
		swapped(t, a, x, 5, 4, false)
		added(t, a, x, 0, 4)
		added(t, a, x, 6, 4)
		added(t, a, x, mostWord, 10)
		isRead(t, a, x, 9)
		added(t, a, x, mostWord-8, 9)
		isRead(t, a, x, 0)
		added(t, a, x, 1<<63, 0)
		added(t, a, x, 1<<63+1, 1<<63)
		isRead(t, a, x, 1)
	}
	if !slices.Equal(a.Words(), []uint64{1, 0, 0, 0, 1, 0, 0, 0, 1}) {
		t.Errorf("Words %v", a.Words())
	}
	isRead(t, a, api.Addr{Block: handle(1, 1), At: 1}, 6)
	room(t, a, 4, 4, 2)
}

// Each word is one of its own: what is done to one isn't seen in any other.
func TestWordsApartP3_2(t *testing.T) {
	a := arena(t, 50)
	laid(t, a, handle(1, 1), make([]uint64, 9)...)
	laid(t, a, handle(2, 2), make([]uint64, 9)...)
	for i, h := range []uint64{0, handle(1, 1), handle(2, 2)} {
		for at := range 9 {
			written(t, a, api.Addr{Block: h, At: at}, uint64(100*i+at+1))
		}
	}
	for i, h := range []uint64{0, handle(1, 1), handle(2, 2)} {
		for at := range 9 {
			isRead(t, a, api.Addr{Block: h, At: at}, uint64(100*i+at+1))
		}
	}
}

func TestRangeP3_2(t *testing.T) {
	a := arena(t, 50)
	laid(t, a, handle(1, 1), 1, 9)
	laid(t, a, handle(2, 2), 1)
	before := a.Clone()
	n := 0
	for _, at := range []int{-1, -2, 9, 10, 65536, 1 << 32, math.MaxInt, math.MinInt} {
		for _, h := range []uint64{0, handle(1, 1), handle(2, 2)} {
			nothing(t, a, api.Addr{Block: h, At: at}, api.ErrRange)
			n += 6
		}
	}
	nothing(t, a, api.Addr{Block: handle(1, 1), At: 2}, api.ErrRange)
	nothing(t, a, api.Addr{Block: handle(2, 2), At: 1}, api.ErrRange)
	if !Same(a, before) {
		t.Error("what was refused has changed something")
	}
	counts(t, a, n+12, api.Tally{Lays: 2})
}

func TestGoneP3_2(t *testing.T) {
	a := arena(t, 50)
	laid(t, a, handle(1, 1), 1, 9)
	laid(t, a, handle(2, 2), 1)
	laid(t, a, handle(3, 3), 1)
	freed(t, a, handle(2, 2), api.OK)
	before := a.Clone()
	n := 0
	for _, h := range append(odd(), handle(2, 2), handle(1, 2), handle(2, 1), handle(2, 3)) {
		for _, at := range []int{0, 1, -1, 9, math.MaxInt, math.MinInt} {
			nothing(t, a, api.Addr{Block: h, At: at}, api.ErrGone)
			n += 6
		}
	}
	if !Same(a, before) {
		t.Error("what was refused has changed something")
	}
	counts(t, a, n, api.Tally{Lays: 3, Frees: 1})
}

func TestTallyP3_3(t *testing.T) {
	a := arena(t, 8)
	x := api.Addr{At: 3}
	want := api.Tally{}
	for i, do := range []func(){
		func() { a.Lay(1, 2, 3); want.Lays++ },
		func() { a.Lay(1); want.Lays++ },
		func() { a.Read(x); want.Reads++ },
		func() { a.Write(x, 1); want.Writes++ },
		func() { a.Swap(x, 1, 2); want.Swaps++ },
		func() { a.Swap(x, 1, 2); want.Swaps++ },
		func() { a.Add(x, 0); want.Adds++ },
		func() { a.Free(handle(1, 1)); want.Frees++ },
		func() { a.Read(x); want.Reads++ },
		func() { a.Lay() },
		func() { a.Lay(make([]uint64, 9)...) },
	} {
		do()
		if a.Faults() != 0 || a.Tally() != want {
			t.Fatalf("%d: Faults %d, Tally %v, want %v", i, a.Faults(), a.Tally(), want)
		}
	}
	gone, out := api.Addr{Block: handle(1, 1)}, api.Addr{At: 9}
	for i, do := range []func(){
		func() { a.Free(handle(1, 1)) },
		func() { a.Free(0) },
		func() { a.Read(gone) },
		func() { a.Read(out) },
		func() { a.Write(gone, 1) },
		func() { a.Write(out, 1) },
		func() { a.Swap(gone, 0, 1) },
		func() { a.Swap(out, 0, 0) },
		func() { a.Add(gone, 1) },
		func() { a.Add(out, 1) },
	} {
		do()
		counts(t, a, i+1, want)
	}
	// Whatever only looks is no access.
	a.Size(handle(1, 1))
	a.Size(handle(2, 2))
	handles(a)
	a.Words()
	Same(a, a.Clone())
	counts(t, a, 10, want)
}

func TestPeakP3_3(t *testing.T) {
	a := arena(t, 20)
	laid(t, a, handle(1, 1), make([]uint64, 5)...)
	laid(t, a, handle(2, 2), make([]uint64, 7)...)
	room(t, a, 12, 12, 2)
	freed(t, a, handle(2, 2), api.OK)
	room(t, a, 5, 12, 1)
	laid(t, a, handle(3, 2), make([]uint64, 6)...)
	room(t, a, 11, 12, 2)
	refused(t, a, api.ErrFull, make([]uint64, 10)...)
	room(t, a, 11, 12, 2)
	laid(t, a, handle(4, 3), 1, 1)
	room(t, a, 13, 13, 3)
	for _, h := range []uint64{handle(1, 1), handle(3, 2), handle(4, 3)} {
		freed(t, a, h, api.OK)
	}
	room(t, a, 0, 13, 0)
}

func TestFixedWordsAreNewP3_3(t *testing.T) {
	a := arena(t, 20)
	written(t, a, api.Addr{At: 2}, 5)
	l := a.Words()
	l[2] = 6
	l[0] = 6
	if !slices.Equal(a.Words(), []uint64{0, 0, 5, 0, 0, 0, 0, 0, 0}) {
		t.Errorf("Words %v", a.Words())
	}
	m := a.Words()
	written(t, a, api.Addr{At: 2}, 7)
	if m[2] != 5 {
		t.Errorf("what was answered is %v now", m)
	}
}

// The numbers of the blocks tell the order: neither the births nor the handles do.
func TestAllOrderP3_3(t *testing.T) {
	a := arena(t, 2000)
	for n := uint64(1); n <= 300; n++ {
		laid(t, a, handle(n, n), n)
	}
	var want []uint64
	for n := uint64(1); n <= 300; n += 3 {
		freed(t, a, handle(n, n), api.OK)
	}
	for i := uint64(1); i <= 100; i++ {
		laid(t, a, handle(300+i, 3*i-2), 1000+i)
		want = append(want, handle(300+i, 3*i-2), handle(3*i-1, 3*i-1), handle(3*i, 3*i))
	}
	for range 3 {
		blocks(t, a, want...)
	}
	for h, words := range a.All() {
		w := h / 65536
		if w > 300 {
			w += 700
		}
		if !slices.Equal(words, []uint64{w}) {
			t.Errorf("All: %d %v", h, words)
		}
	}
}

func TestAllAsItWasP3_3(t *testing.T) {
	a := arena(t, 20)
	laid(t, a, handle(1, 1), 1, 2)
	laid(t, a, handle(2, 2), 3)
	laid(t, a, handle(3, 3), 4)
	all := a.All()
	written(t, a, api.Addr{Block: handle(1, 1), At: 1}, 9)
	freed(t, a, handle(2, 2), api.OK)
	laid(t, a, handle(4, 2), 8)
	laid(t, a, handle(5, 4), 8)
	blocks(t, a, handle(1, 1), handle(4, 2), handle(3, 3), handle(5, 4))
	for range 2 {
		var l []uint64
		for h, words := range all {
			l = append(append(l, h), words...)
			// Neither what is handed out nor the arena may be disturbed by who goes through.
			words[0] = 70
			_ = append(words, 71)
			a.Write(api.Addr{Block: h}, 72)
		}
		if !slices.Equal(l, []uint64{handle(1, 1), 1, 2, handle(2, 2), 3, handle(3, 3), 4}) {
			t.Fatalf("All: %v", l)
		}
	}
	isRead(t, a, api.Addr{Block: handle(1, 1)}, 72)
	isRead(t, a, api.Addr{Block: handle(4, 2)}, 8)
}

func TestAllWordsAreNewP3_3(t *testing.T) {
	a := arena(t, 20)
	laid(t, a, handle(1, 1), 1, 2)
	for _, words := range a.All() {
		words[0], words[1] = 8, 9
	}
	isRead(t, a, api.Addr{Block: handle(1, 1)}, 1)
	isRead(t, a, api.Addr{Block: handle(1, 1), At: 1}, 2)
}

func TestAllLeavesOffP3_3(t *testing.T) {
	a := arena(t, 20)
	for n := uint64(1); n <= 5; n++ {
		laid(t, a, handle(n, n), n)
	}
	all := a.All()
	for stop := range 6 {
		n := 0
		for range all {
			n++
			if n > stop {
				break
			}
		}
		if n != min(stop+1, 5) {
			t.Errorf("%d blocks, left off behind %d", n, stop+1)
		}
	}
	var first []uint64
	for h := range all {
		for g := range all {
			first = append(first, h, g)
			break
		}
	}
	if !slices.Equal(first, []uint64{handle(1, 1), handle(1, 1), handle(2, 2), handle(1, 1), handle(3, 3), handle(1, 1), handle(4, 4), handle(1, 1), handle(5, 5), handle(1, 1)}) {
		t.Errorf("one amid another: %v", first)
	}
}

// Who frees all that it is handed still comes to each block.
func TestAllFreedAmidP3_3(t *testing.T) {
	a := arena(t, 20)
	for n := uint64(1); n <= 5; n++ {
		laid(t, a, handle(n, n), n)
	}
	for h := range a.All() {
		freed(t, a, h, api.OK)
	}
	room(t, a, 0, 5, 0)
	blocks(t, a)
}

func TestCloneP3_3(t *testing.T) {
	a := arena(t, 12)
	laid(t, a, handle(1, 1), 1, 2)
	laid(t, a, handle(2, 2), 3, 4)
	laid(t, a, handle(3, 3), 5)
	freed(t, a, handle(2, 2), api.OK)
	freed(t, a, handle(2, 2), api.ErrGone)
	written(t, a, api.Addr{At: 8}, 6)
	tally := api.Tally{Lays: 3, Frees: 1, Writes: 1}
	c := a.Clone()
	if c == nil || c == a || !Same(a, c) || c.Capacity() != 12 {
		t.Fatal("no clone")
	}
	room(t, c, 3, 5, 2)
	counts(t, c, 1, tally)
	written(t, c, api.Addr{At: 8}, 7)
	written(t, c, api.Addr{Block: handle(1, 1)}, 7)
	laid(t, c, handle(4, 2), 7)
	freed(t, c, handle(3, 3), api.OK)
	nothing(t, c, api.Addr{At: 9}, api.ErrRange)
	room(t, a, 3, 5, 2)
	counts(t, a, 1, tally)
	isRead(t, a, api.Addr{At: 8}, 6)
	isRead(t, a, api.Addr{Block: handle(1, 1)}, 1)
	blocks(t, a, handle(1, 1), handle(3, 3))
	written(t, a, api.Addr{Block: handle(1, 1), At: 1}, 70)
	written(t, a, api.Addr{At: 0}, 70)
	laid(t, a, handle(4, 2), 70, 70, 70, 70, 70, 70, 70, 70, 70)
	room(t, a, 12, 12, 3)
	room(t, c, 3, 5, 2)
	isRead(t, c, api.Addr{Block: handle(1, 1), At: 1}, 2)
	isRead(t, c, api.Addr{At: 0}, 0)
	isRead(t, c, api.Addr{At: 8}, 7)
	isRead(t, c, api.Addr{Block: handle(4, 2)}, 7)
	laid(t, c, handle(5, 3), 1)
	freed(t, a, handle(1, 1), api.OK)
	laid(t, a, handle(5, 1), 1)
	blocks(t, c, handle(1, 1), handle(4, 2), handle(5, 3))
	blocks(t, a, handle(5, 1), handle(4, 2), handle(3, 3))
}

// isSame asks both ways round.
func isSame(t *testing.T, what string, a, b *Arena, want bool) {
	t.Helper()
	if Same(a, b) != want || Same(b, a) != want {
		t.Errorf("Same of %s: %v %v, want %v", what, Same(a, b), Same(b, a), want)
	}
}

func TestSameP3_3(t *testing.T) {
	fill := func(capacity int) *Arena {
		a := arena(t, capacity)
		laid(t, a, handle(1, 1), 1, 2)
		laid(t, a, handle(2, 2), 0)
		written(t, a, api.Addr{At: 3}, 4)
		return a
	}
	a := fill(30)
	isSame(t, "itself", a, a, true)
	isSame(t, "one of another capacity", a, fill(31), true)
	isSame(t, "nil", a, nil, false)
	isSame(t, "two nil ones", nil, nil, true)
	isSame(t, "two new ones", arena(t, 5), arena(t, 6), true)
	isSame(t, "a new one", a, arena(t, 30), false)
	isSame(t, "nil and a new one", nil, arena(t, 0), false)
	for at := range 9 {
		b := fill(30)
		added(t, b, api.Addr{At: at}, 1, a.Words()[at])
		isSame(t, "another fixed word", a, b, false)
	}
	for at := range 2 {
		b := fill(30)
		written(t, b, api.Addr{Block: handle(1, 1), At: at}, 9)
		isSame(t, "another word", a, b, false)
	}
	b := fill(30)
	laid(t, b, handle(3, 3), 0)
	isSame(t, "a block more", a, b, false)
	freed(t, b, handle(3, 3), api.OK)
	isSame(t, "a block that came and went", a, b, true)
	isRead(t, b, api.Addr{At: 0}, 0)
	freed(t, b, 0, api.ErrGone)
	isSame(t, "other counts", a, b, true)
	freed(t, b, handle(2, 2), api.OK)
	isSame(t, "a block less", a, b, false)
	laid(t, b, handle(4, 2), 0)
	isSame(t, "another birth", a, b, false)
	b = fill(30)
	freed(t, b, handle(2, 2), api.OK)
	c := fill(30)
	freed(t, c, handle(1, 1), api.OK)
	isSame(t, "other blocks", b, c, false)
}

// The words of a block count, how many there are too.
func TestSameSizeP3_3(t *testing.T) {
	a, b := arena(t, 9), arena(t, 9)
	laid(t, a, handle(1, 1), 0)
	laid(t, b, handle(1, 1), 0, 0)
	isSame(t, "a word more", a, b, false)
}

// Handles are held in a set of the test's own, so that one that is told twice is seen whatever the arena says of it.
func TestHandlesP3_4(t *testing.T) {
	a := arena(t, 400)
	seen := map[uint64]bool{}
	var live, dead []uint64
	for i := range 30000 {
		if i%7 < 3 || len(live) == 0 {
			h, e := a.Lay(uint64(i), uint64(i))
			if e == api.ErrFull {
				live, dead = live[1:], append(dead, live[0])
				freed(t, a, dead[len(dead)-1], api.OK)
				continue
			}
			if e != api.OK || seen[h] || h == 0 {
				t.Fatalf("Lay: %d %d, seen: %v", h, e, seen[h])
			}
			seen[h] = true
			live = append(live, h)
			continue
		}
		at := i * 7919 % len(live)
		freed(t, a, live[at], api.OK)
		dead = append(dead, live[at])
		live = slices.Delete(live, at, at+1)
		gone := dead[i*31%len(dead)]
		if w, e := a.Read(api.Addr{Block: gone}); w != 0 || e != api.ErrGone {
			t.Fatalf("Read of %d: %d %d", gone, w, e)
		}
	}
	if len(seen) < 10000 {
		t.Errorf("only %d blocks were laid", len(seen))
	}
}

// A number that is used again leads to the new block by the new handle alone.
func TestUsedAgainP3_4(t *testing.T) {
	a := arena(t, 4)
	laid(t, a, handle(1, 1), 5, 5)
	for birth := uint64(2); birth < 100; birth++ {
		freed(t, a, handle(birth-1, 1), api.OK)
		laid(t, a, handle(birth, 1), birth, 5)
		for elder := uint64(1); elder < birth; elder++ {
			nothing(t, a, api.Addr{Block: handle(elder, 1)}, api.ErrGone)
			freed(t, a, handle(elder, 1), api.ErrGone)
			if a.Size(handle(elder, 1)) != 0 {
				t.Fatalf("Size of %d", elder)
			}
		}
		isRead(t, a, api.Addr{Block: handle(birth, 1)}, birth)
		isRead(t, a, api.Addr{Block: handle(birth, 1), At: 1}, 5)
	}
}

func TestNilP3(t *testing.T) {
	var a *Arena
	refused(t, a, api.ErrNil)
	refused(t, a, api.ErrNil, 1)
	refused(t, a, api.ErrNil, make([]uint64, mostLay+1)...)
	for _, h := range append(odd(), 0, 65537) {
		freed(t, a, h, api.ErrNil)
		for _, at := range []int{0, -1, 9, math.MaxInt, math.MinInt} {
			nothing(t, a, api.Addr{Block: h, At: at}, api.ErrNil)
		}
		if a.Size(h) != 0 {
			t.Errorf("Size(%d) of nil: %d", h, a.Size(h))
		}
	}
	if a.Capacity() != 0 || len(a.Words()) != 0 || a.Clone() != nil {
		t.Errorf("nil: %d %v %v", a.Capacity(), a.Words(), a.Clone())
	}
	room(t, a, 0, 0, 0)
	counts(t, a, 0, api.Tally{})
	blocks(t, a)
}

// Two arenas have nothing in common.
func TestApart(t *testing.T) {
	a, b := arena(t, 5), arena(t, 5)
	laid(t, a, handle(1, 1), 1)
	laid(t, a, handle(2, 2), 1)
	written(t, a, api.Addr{At: 0}, 1)
	room(t, b, 0, 0, 0)
	counts(t, b, 0, api.Tally{})
	isRead(t, b, api.Addr{At: 0}, 0)
	laid(t, b, handle(1, 1), 2)
	isRead(t, a, api.Addr{Block: handle(1, 1)}, 1)
}
