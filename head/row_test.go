package head

import (
	"math"
	"slices"
	"testing"

	"roundelay/api"
	"roundelay/arena"
)

func TestNoEntriesP9_3(t *testing.T) {
	isRow(t, nil, 0, nil)
	a := arenaOf(t, 100)
	isRow(t, a, 0, nil)
	h := lay(t, a, 1, 2, 0)
	isRow(t, a, 0, nil)
	for _, cursor := range []uint64{1, 2, 65535, 65536, 65537, 131074, 1 << 63, math.MaxUint64} {
		isNone(t, nil, cursor)
		if cursor != h {
			isNone(t, a, cursor)
		}
	}
}

func TestByHandP9_3(t *testing.T) {
	a := arenaOf(t, 100)
	last := lay(t, a, 254, 5<<32|3<<28, 0)
	first := lay(t, a, 0, 6<<32|9, last)
	lay(t, a, 1, 2, first)
	l, ok := List(a, first)
	if want := []api.Entry{{Slot: 0, Note: 6<<32 | 9, Next: last}, {Slot: 254, Note: 5<<32 | 3<<28}}; !ok || !slices.Equal(l, want) {
		t.Errorf("%v, %t", l, ok)
	}
	if h, ok := Handles(a, first); !ok || !slices.Equal(h, []uint64{131074, 65537}) {
		t.Errorf("%v, %t", h, ok)
	}
	isRow(t, a, last, []uint64{last})
}

// Rows of all lengths up to some, each from all its entries on, among other rows and other blocks.
func TestRowsP9_3(t *testing.T) {
	r := draws(2)
	for n := 1; n < 60; n++ {
		a := arenaOf(t, 1000)
		rowOf(t, a, r, 1+r.Intn(5))
		lay(t, a, make([]uint64, 8)...)
		l := rowOf(t, a, r, n)
		lay(t, a, 300, 300, 300)
		for i := range l {
			isRow(t, a, l[i], l[i:])
		}
	}
}

// 1000 entries may be; one more may not, whatever it is.
func TestManyP9_3(t *testing.T) {
	r := draws(3)
	a := arenaOf(t, 10000)
	l := rowOf(t, a, r, 1003)
	for i, h := range l[:3] {
		isNone(t, a, h)
		isNone(t, a, l[2-i])
	}
	for _, i := range []int{3, 4, 5, 500, 1001, 1002} {
		isRow(t, a, l[i], l[i:])
	}
	write(t, a, l[1002], 2, l[0])
	for _, i := range []int{0, 3, 1002} {
		isNone(t, a, l[i])
	}
	write(t, a, l[1002], 2, 1<<16*1<<27+1)
	isNone(t, a, l[3])
	isNone(t, a, l[1002])
	write(t, a, l[1001], 2, 0)
	isRow(t, a, l[2], l[2:1002])
	isNone(t, a, l[1])
}

// A ring has no end: so there are more than 1000.
func TestRingsP9_3(t *testing.T) {
	r := draws(4)
	for _, n := range []int{1, 2, 3, 10, 499, 500, 999, 1000, 1001} {
		a := arenaOf(t, 10000)
		l := rowOf(t, a, r, n)
		for _, back := range []int{0, n / 2, n - 1} {
			write(t, a, l[n-1], 2, l[back])
			isNone(t, a, l[0])
			isNone(t, a, l[n/2])
			isNone(t, a, l[n-1])
		}
	}
}

// wrongBlocks: handles of an arena that lead to no entry.
func wrongBlocks(t *testing.T, a *arena.Arena) []uint64 {
	t.Helper()
	gone, freed := lay(t, a, 1, 2, 0), lay(t, a, 1, 2, 0)
	free(t, a, gone)
	// The new block has the number of the one that is gone, so that the birth alone tells them apart.
	heir := lay(t, a, 1, 2, 0)
	good := lay(t, a, 1, 2, 0)
	l := []uint64{
		gone, heir + 65536*1000, heir - heir%65536, heir % 65536, heir<<20 | 7, 1<<44 + heir, 1<<63 + heir,
		lay(t, a, 1), lay(t, a, 1, 2), lay(t, a, 1, 2, 0, 0), lay(t, a, 0, 0, 0, 0, 0, 0, 0, 0), lay(t, a, 1, 2, 0, 1, 2, 0),
		lay(t, a, 255, 2, 0), lay(t, a, 1<<32, 2, 0), lay(t, a, math.MaxUint64, 2, 0),
		lay(t, a, 1, 6<<28, 0), lay(t, a, 1, 15<<28, good), lay(t, a, 1, 1<<28|1, 0), lay(t, a, 1, math.MaxUint64, 0), lay(t, a, 1, 9<<32|5<<28|7, 0),
		lay(t, a, 1, 2, 1), lay(t, a, 1, 2, 65535), lay(t, a, 1, 2, 65536), lay(t, a, 1, 2, 1<<44+good), lay(t, a, 1, 2, math.MaxUint64),
		lay(t, a, 1, 2, gone), lay(t, a, 1, 2, good+65536), lay(t, a, 1, 2, good+1000),
		1, 8, 255, 65535, 65536, 1 << 44, 1 << 63, math.MaxUint64,
	}
	free(t, a, freed)
	return append(l, freed)
}

// Each entry of a row leads in turn to each that may not be, and back.
func TestWrongNextP9_3(t *testing.T) {
	r := draws(5)
	a := arenaOf(t, 1000)
	l := rowOf(t, a, r, 7)
	wrong := wrongBlocks(t, a)
	for _, w := range wrong {
		isNone(t, a, w)
		for i, h := range l {
			e, _ := a.Read(api.Addr{Block: h, At: 2})
			write(t, a, h, 2, w)
			isNone(t, a, l[0])
			isNone(t, a, h)
			if i < len(l)-1 {
				isRow(t, a, l[i+1], l[i+1:])
			}
			write(t, a, h, 2, e)
		}
	}
	isRow(t, a, l[0], l)
}

// Of each entry of a row each word is put to each edge, and back.
func TestWrongWordsP9_3(t *testing.T) {
	r := draws(6)
	a := arenaOf(t, 1000)
	l := rowOf(t, a, r, 3)
	for _, h := range l {
		for at := range 3 {
			was, _ := a.Read(api.Addr{Block: h, At: at})
			for _, w := range edges() {
				write(t, a, h, at, w)
				handles, entries, ok := plainRow(a, l[0])
				ask(t, a, l[0], handles, entries, ok)
			}
			write(t, a, h, at, was)
		}
	}
	isRow(t, a, l[0], l)
}

// Each entry is freed in turn, in an arena apart, and another block comes to have its number.
func TestGoneP9_3(t *testing.T) {
	r := draws(7)
	a := arenaOf(t, 1000)
	l := rowOf(t, a, r, 9)
	for i, h := range l {
		c := a.Clone()
		free(t, c, h)
		isNone(t, c, l[0])
		isNone(t, c, h)
		lay(t, c, 1, 2, 0)
		isNone(t, c, l[0])
		if i < len(l)-1 {
			isRow(t, c, l[i+1], l[i+1:])
		}
	}
	isRow(t, a, l[0], l)
}

// Two rows may have one end.
func TestSharedP9_3(t *testing.T) {
	r := draws(8)
	a := arenaOf(t, 1000)
	one, two := rowOf(t, a, r, 4), rowOf(t, a, r, 3)
	write(t, a, two[2], 2, one[1])
	isRow(t, a, one[0], one)
	isRow(t, a, two[0], append(slices.Clone(two), one[1:]...))
}

// What is told is as it is when it is asked: nothing is kept, and an answer is one's own.
func TestLaterP9_3(t *testing.T) {
	r := draws(9)
	a := arenaOf(t, 1000)
	l := rowOf(t, a, r, 5)
	entries, _ := List(a, l[0])
	handles, _ := Handles(a, l[0])
	was := slices.Clone(entries)
	write(t, a, l[2], 0, (uint64(was[2].Slot)+1)%255)
	if !slices.Equal(entries, was) {
		t.Errorf("%v, was %v", entries, was)
	}
	isRow(t, a, l[0], l)
	write(t, a, l[2], 2, 0)
	isRow(t, a, l[0], l[:3])
	clear(entries[:cap(entries)])
	clear(handles[:cap(handles)])
	isRow(t, a, l[0], l[:3])
	e1, _ := List(a, l[0])
	e2, _ := List(a, l[0])
	h1, _ := Handles(a, l[0])
	h2, _ := Handles(a, l[0])
	clear(e1[:cap(e1)])
	clear(h1[:cap(h1)])
	if e2[0].Next != l[1] || h2[0] != l[0] {
		t.Errorf("two answers share memory: %v, %v", e2, h2)
	}
	free(t, a, l[1])
	isNone(t, a, l[0])
}

// Drawn arenas, of which most blocks are entries that lead to others, held against plain rows.
func TestDrawnP9_3(t *testing.T) {
	r, edge := draws(10), edges()
	var rows, long, none int
	for range 600 {
		a := arenaOf(t, 2000)
		odd := []int{5, 30, 100000}[r.Intn(3)]
		all := []uint64{0}
		for range 1 + r.Intn(40) {
			w := drawnWords(r, edge, entryKinds)
			w[2] = all[len(all)-1-r.Intn(min(3, len(all)))]
			if r.Intn(odd) == 0 {
				w[r.Intn(3)] = edge[r.Intn(len(edge))]
			}
			if r.Intn(odd) == 0 {
				w = append(w, make([]uint64, 3)...)[:1+r.Intn(5)]
			}
			all = append(all, lay(t, a, w...))
		}
		if r.Intn(odd) == 0 {
			free(t, a, all[1+r.Intn(len(all)-1)])
		}
		for _, cursor := range append(all, r.Uint64(), all[1]+65536) {
			handles, entries, ok := plainRow(a, cursor)
			ask(t, a, cursor, handles, entries, ok)
			switch {
			case !ok:
				none++
			case len(handles) > 4:
				long++
			default:
				rows++
			}
		}
	}
	if rows < 1000 || long < 1000 || none < 1000 {
		t.Errorf("%d rows, %d long ones, %d that are none: too few to tell", rows, long, none)
	}
}
