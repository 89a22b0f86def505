package head

import (
	"math"
	"math/rand"
	"slices"
	"testing"

	"roundelay/api"
	"roundelay/arena"
)

// What the document's words say of one word, told by plain numbers.

func isPlainLink(w uint64) bool {
	birth, block := w/65536, w%65536
	return w == 0 || birth >= 1 && birth <= 268435455 && block >= 1
}

func isPlainNote(w uint64) bool {
	body := w % 4294967296
	kind, value := body/268435456, body%268435456
	return kind == 0 || kind == 4 || kind <= 5 && value == 0
}

func isPlainLen(w uint64) bool { return w <= 256 }

func isPlainFront(w uint64) bool { return w <= 255 }

func isPlainSlot(w uint64) bool { return w <= 254 }

// The words of a head, and those of an entry, each by what it may be.
var (
	headKinds  = []func(uint64) bool{isPlainLink, isPlainLink, isPlainLen, isPlainLink, isPlainFront, isPlainLen, isPlainLink, isPlainLen}
	entryKinds = []func(uint64) bool{isPlainSlot, isPlainNote, isPlainLink}
)

// isPlain: are these just so many words, each as it may be?
func isPlain(w []uint64, kinds []func(uint64) bool) bool {
	if len(w) != len(kinds) {
		return false
	}
	for i, may := range kinds {
		if !may(w[i]) {
			return false
		}
	}
	return true
}

func plainVersion(w []uint64) api.Version {
	var v api.Version
	v.Map = w[1]
	v.MapLen = int(w[2])
	v.Queue = w[3]
	v.Front = int(w[4])
	v.Len = int(w[5])
	v.Sem = w[6]
	v.SemLen = int(w[7])
	return v
}

func plainEntry(w []uint64) api.Entry {
	var e api.Entry
	e.Slot = int(w[0])
	e.Note = w[1]
	e.Next = w[2]
	return e
}

// plainRow of entries from a cursor on, by the blocks' words alone.
func plainRow(a *arena.Arena, cursor uint64) ([]uint64, []api.Entry, bool) {
	blocks := map[uint64][]uint64{}
	if a != nil {
		for h, words := range a.All() {
			blocks[h] = words
		}
	}
	var handles []uint64
	var entries []api.Entry
	for cursor != 0 {
		words, lives := blocks[cursor]
		if !lives || !isPlain(words, entryKinds) || len(handles) > 1000 {
			return nil, nil, false
		}
		handles, entries = append(handles, cursor), append(entries, plainEntry(words))
		cursor = words[2]
	}
	if len(handles) > 1000 {
		return nil, nil, false
	}
	return handles, entries, true
}

// edges: words at, and beside, the edges of all that the document names.
func edges() []uint64 {
	l := []uint64{0, 1, 2, 5, 100, math.MaxUint64, math.MaxUint64 - 1}
	for _, w := range []uint64{254, 255, 256, 257, 511, 1023, 1024, 65535, 65536, 65537, 131072, 131073, 1 << 63, 1<<63 + 65537} {
		l = append(l, w-1, w, w+1)
	}
	for _, bits := range []int{28, 29, 30, 31, 32, 33, 43, 44, 45, 60, 62} {
		w := uint64(1) << bits
		l = append(l, w-1, w, w+1, w+254, w+255, w+256, w+65536, w+65537)
	}
	for kind := range uint64(17) {
		w := kind << 28
		l = append(l, w, w+1, w+1<<28-1, 7<<32+w, 7<<32+w+1, math.MaxUint32<<32+w, math.MaxUint32<<32+w+1)
	}
	return append(l, (1<<28-1)<<16+65535, 1<<44+1, 9<<16, 9<<16+1, math.MaxUint64-65535, math.MaxInt64-255)
}

func draws(seed int64) *rand.Rand { return rand.New(rand.NewSource(seed)) }

// drawnWord that may be of this kind, at an edge as often as not.
func drawnWord(r *rand.Rand, l []uint64, may func(uint64) bool) uint64 {
	for {
		w := l[r.Intn(len(l))]
		if r.Intn(2) == 0 {
			w = r.Uint64() >> r.Intn(64)
		}
		if may(w) {
			return w
		}
	}
}

func drawnWords(r *rand.Rand, l []uint64, kinds []func(uint64) bool) []uint64 {
	var w []uint64
	for _, may := range kinds {
		w = append(w, drawnWord(r, l, may))
	}
	return w
}

// isHeadHere holds both calls of heads against what the plain words tell of these.
func isHeadHere(t *testing.T, w []uint64) {
	t.Helper()
	was := slices.Clone(w)
	cursor, v, ok := Read(w)
	if !slices.Equal(w, was) {
		t.Fatalf("Read changed %v to %v", was, w)
	}
	if !isPlain(w, headKinds) {
		if ok || cursor != 0 || v != (api.Version{}) {
			t.Fatalf("Read of %v: %d, %v, %t", w, cursor, v, ok)
		}
	} else if !ok || cursor != w[0] || v != plainVersion(w) {
		t.Fatalf("Read of %v: %d, %v, %t", w, cursor, v, ok)
	}
	if len(w) == 8 {
		arePut(t, w, isPlain(w, headKinds))
	}
}

// arePut: are these words what Words puts, or none?
func arePut(t *testing.T, w []uint64, want bool) {
	t.Helper()
	put, ok := Words(w[0], plainVersion(w))
	if ok != want || want && !slices.Equal(put, w) || !want && len(put) != 0 {
		t.Fatalf("Words of %v: %v, %t, want %t", w, put, ok, want)
	}
}

// isEntryHere holds both calls of entries against what the plain words tell of these.
func isEntryHere(t *testing.T, w []uint64) {
	t.Helper()
	was := slices.Clone(w)
	e, ok := ReadEntry(w)
	if !slices.Equal(w, was) {
		t.Fatalf("ReadEntry changed %v to %v", was, w)
	}
	want := isPlain(w, entryKinds)
	if !want && (ok || e != api.Entry{}) || want && (!ok || e != plainEntry(w)) {
		t.Fatalf("ReadEntry of %v: %v, %t, want %t", w, e, ok, want)
	}
	if len(w) != 3 {
		return
	}
	put, ok := EntryWords(plainEntry(w))
	if ok != want || want && !slices.Equal(put, w) || !want && len(put) != 0 {
		t.Fatalf("EntryWords of %v: %v, %t, want %t", w, put, ok, want)
	}
}

func arenaOf(t *testing.T, capacity int) *arena.Arena {
	t.Helper()
	a, e := arena.New(capacity)
	if e != api.OK {
		t.Fatalf("New(%d): %d", capacity, e)
	}
	return a
}

func lay(t *testing.T, a *arena.Arena, words ...uint64) uint64 {
	t.Helper()
	h, e := a.Lay(words...)
	if e != api.OK {
		t.Fatalf("Lay: %d", e)
	}
	return h
}

func write(t *testing.T, a *arena.Arena, h uint64, at int, w uint64) {
	t.Helper()
	if e := a.Write(api.Addr{Block: h, At: at}, w); e != api.OK {
		t.Fatalf("Write: %d", e)
	}
}

func free(t *testing.T, a *arena.Arena, h uint64) {
	t.Helper()
	if e := a.Free(h); e != api.OK {
		t.Fatalf("Free: %d", e)
	}
}

// rowOf so many entries: their handles, in a row. They are laid in any order, so their handles tell nothing of where they stand.
func rowOf(t *testing.T, a *arena.Arena, r *rand.Rand, n int) []uint64 {
	t.Helper()
	var l []uint64
	for range n {
		l = append(l, lay(t, a, uint64(r.Intn(255)), r.Uint64()>>32<<32|uint64(r.Intn(6))<<28, 0))
	}
	r.Shuffle(n, func(i, j int) { l[i], l[j] = l[j], l[i] })
	for i := range n - 1 {
		write(t, a, l[i], 2, l[i+1])
	}
	return l
}

// isRow looks whether a cursor leads to these entries, and whether the arena was left as it was.
func isRow(t *testing.T, a *arena.Arena, cursor uint64, handles []uint64) {
	t.Helper()
	plain, entries, ok := plainRow(a, cursor)
	if !ok || !slices.Equal(plain, handles) {
		t.Fatalf("the test's own row of %d: %d handles, %t, want %d", cursor, len(plain), ok, len(handles))
	}
	ask(t, a, cursor, handles, entries, true)
}

func isNone(t *testing.T, a *arena.Arena, cursor uint64) {
	t.Helper()
	if _, _, ok := plainRow(a, cursor); ok {
		t.Fatalf("the test's own row of %d is one", cursor)
	}
	ask(t, a, cursor, nil, nil, false)
}

func ask(t *testing.T, a *arena.Arena, cursor uint64, handles []uint64, entries []api.Entry, want bool) {
	t.Helper()
	was, tally, faults := a.Clone(), a.Tally(), a.Faults()
	if l, ok := List(a, cursor); ok != want || !slices.Equal(l, entries) {
		t.Fatalf("List of %d: %v, %t, want %v, %t", cursor, l, ok, entries, want)
	}
	if l, ok := Handles(a, cursor); ok != want || !slices.Equal(l, handles) {
		t.Fatalf("Handles of %d: %v, %t, want %v, %t", cursor, l, ok, handles, want)
	}
	if a.Tally() != tally || a.Faults() != faults || !arena.Same(a, was) {
		t.Fatalf("the arena isn't as it was: %v and %d faults, were %v and %d", a.Tally(), a.Faults(), tally, faults)
	}
}
