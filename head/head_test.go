package head

import (
	"math"
	"slices"
	"testing"

	"roundelay/api"
	"roundelay/arena"
	"roundelay/draft"
	"roundelay/fields"
	"roundelay/ops"
	"roundelay/quad"
)

func TestOrderP9_1(t *testing.T) {
	v := api.Version{Map: 65538, MapLen: 3, Queue: 131076, Front: 5, Len: 6, Sem: 196615, SemLen: 8}
	want := []uint64{65537, 65538, 3, 131076, 5, 6, 196615, 8}
	if w, ok := Words(65537, v); !ok || !slices.Equal(w, want) {
		t.Errorf("%v, %t", w, ok)
	}
	if cursor, got, ok := Read(want); !ok || cursor != 65537 || got != v {
		t.Errorf("%d, %v, %t", cursor, got, ok)
	}
}

func TestNoughtsP9_1(t *testing.T) {
	if w, ok := Words(0, api.Version{}); !ok || !slices.Equal(w, make([]uint64, 8)) {
		t.Errorf("%v, %t", w, ok)
	}
	if cursor, v, ok := Read(make([]uint64, 8)); !ok || cursor != 0 || v != (api.Version{}) {
		t.Errorf("%d, %v, %t", cursor, v, ok)
	}
}

// Each word of a head is put to each edge, and to what is beside it: of a head of noughts, of ordinary ones, and of the greatest ones.
func TestEdgesP9_1(t *testing.T) {
	most := uint64(1<<44 - 1)
	for _, w := range [][]uint64{
		make([]uint64, 8),
		{65537, 65538, 3, 131076, 5, 6, 196615, 8},
		{most, most, 256, most, 255, 256, most, 256},
	} {
		isHeadHere(t, w)
		for i := range w {
			for _, x := range edges() {
				c := slices.Clone(w)
				c[i] = x
				isHeadHere(t, c)
			}
		}
	}
}

// The counts and Front are numbers that may be below 0, too.
func TestWrongNumbersP9_1(t *testing.T) {
	v := api.Version{Map: 65537, MapLen: 1, Queue: 65538, Front: 1, Len: 1, Sem: 65539, SemLen: 1}
	for _, n := range []int{math.MinInt, math.MinInt + 1, math.MinInt32, -65536, -257, -256, -255, -2, -1, 257, 258, 512, 65536, 1 << 32, 1<<32 + 1, math.MaxInt - 1, math.MaxInt} {
		for i, x := range []api.Version{v, v, v, v} {
			*[]*int{&x.MapLen, &x.Front, &x.Len, &x.SemLen}[i] = n
			if w, ok := Words(65540, x); ok || len(w) != 0 {
				t.Errorf("%v: %v, %t", x, w, ok)
			}
			if draft.Right(x) {
				t.Errorf("layer 8 takes %v", x)
			}
		}
	}
}

// Two wrong ones are no better than one, nor does one make up for the other.
func TestTwoWrongP9_1(t *testing.T) {
	ordinary := []uint64{65537, 65538, 3, 131076, 5, 6, 196615, 8}
	for i := range ordinary {
		for j := range ordinary {
			for _, x := range []uint64{1, 257, 1 << 44, math.MaxUint64} {
				c := slices.Clone(ordinary)
				c[i], c[j] = x, math.MaxUint64
				isHeadHere(t, c)
				c[i], c[j] = ordinary[j], ordinary[i]
				isHeadHere(t, c)
			}
		}
	}
}

func TestLengthsP9_1(t *testing.T) {
	isHeadHere(t, nil)
	for n := range 40 {
		isHeadHere(t, make([]uint64, n))
		isHeadHere(t, slices.Repeat([]uint64{65537}, n))
		isHeadHere(t, []uint64{65537, 65538, 3, 131076, 5, 6, 196615, 8, 0, 0, 0, 0, 0, 0, 0, 0, 0, 0, 0, 0, 0, 0, 0, 0, 0, 0, 0, 0, 0, 0, 0, 0, 0, 0, 0, 0, 0, 0, 0, 0}[:n])
	}
	isHeadHere(t, make([]uint64, 65536))
}

// What stands in the spare room is neither read nor changed.
func TestSpareRoomP9_1(t *testing.T) {
	room := []uint64{65537, 65538, 3, 131076, 5, 6, 196615, 8, 9, 10}
	was := slices.Clone(room)
	for n := range 11 {
		isHeadHere(t, room[:n])
		isEntryHere(t, room[:n])
	}
	if !slices.Equal(room, was) {
		t.Errorf("%v", room)
	}
}

func TestAnswersP9_1(t *testing.T) {
	v := api.Version{Map: 65538, Len: 7}
	one, _ := Words(65537, v)
	two, _ := Words(65537, v)
	clear(one[:cap(one)])
	if three, _ := Words(65537, v); !slices.Equal(two, three) || two[0] != 65537 {
		t.Errorf("%v, %v", two, three)
	}
}

func TestOrderP9_2(t *testing.T) {
	e := api.Entry{Slot: 7, Note: 9<<32 | 4<<28 | 11, Next: 131073}
	want := []uint64{7, 9<<32 | 4<<28 | 11, 131073}
	if w, ok := EntryWords(e); !ok || !slices.Equal(w, want) {
		t.Errorf("%v, %t", w, ok)
	}
	if got, ok := ReadEntry(want); !ok || got != e {
		t.Errorf("%v, %t", got, ok)
	}
}

func TestEdgesP9_2(t *testing.T) {
	for _, w := range [][]uint64{
		{0, 0, 0},
		{7, 9<<32 | 4<<28 | 11, 131073},
		{254, math.MaxUint32<<32 | 5<<28 - 1, 1<<44 - 1},
	} {
		isEntryHere(t, w)
		for i := range w {
			for _, x := range edges() {
				c := slices.Clone(w)
				c[i] = x
				isEntryHere(t, c)
				for j := range w {
					c[j] = math.MaxUint64
					isEntryHere(t, c)
					c[j], c[i] = w[j], x
				}
			}
		}
	}
}

// A note is one of each response that there is, of any seq.
func TestNotesP9_2(t *testing.T) {
	for kind := -1; kind < 18; kind++ {
		for _, value := range []int{0, 1, 2, 1023, 1024, 1<<28 - 1} {
			n, right := ops.PackResp(api.Resp{Kind: kind, Value: value})
			if !right {
				n = uint64(kind&15)<<28 | uint64(value)
			}
			for _, seq := range []uint64{0, 1, 2, 77, api.MostSeq - 1, api.MostSeq} {
				note, _ := fields.Note(seq, n)
				w := []uint64{3, note, 65537}
				isEntryHere(t, w)
				if _, ok := ReadEntry(w); right && !ok || !right && kind > 5 && kind < 16 && ok {
					t.Errorf("kind %d, value %d, seq %d: %t", kind, value, seq, ok)
				}
			}
		}
	}
}

func TestWrongNumbersP9_2(t *testing.T) {
	for _, n := range []int{math.MinInt, math.MinInt + 5, math.MinInt32, -256, -255, -2, -1, 255, 256, 65536, 1 << 32, math.MaxInt} {
		if w, ok := EntryWords(api.Entry{Slot: n, Note: 1 << 32, Next: 65537}); ok || len(w) != 0 {
			t.Errorf("slot %d: %v, %t", n, w, ok)
		}
	}
}

func TestLengthsP9_2(t *testing.T) {
	isEntryHere(t, nil)
	for n := range 20 {
		isEntryHere(t, make([]uint64, n))
		isEntryHere(t, []uint64{7, 9<<32 | 4<<28 | 11, 131073, 0, 0, 0, 0, 0, 0, 0, 0, 0, 0, 0, 0, 0, 0, 0, 0, 0}[:n])
	}
	isEntryHere(t, make([]uint64, 65536))
}

func TestAnswersP9_2(t *testing.T) {
	e := api.Entry{Slot: 7, Note: 5, Next: 65537}
	one, _ := EntryWords(e)
	two, _ := EntryWords(e)
	clear(one[:cap(one)])
	if three, _ := EntryWords(e); !slices.Equal(two, three) || two[0] != 7 {
		t.Errorf("%v, %v", two, three)
	}
}

// All heads and entries that are put are read again, and what isn't just so is none: drawn, and one word of it wrong as often as not.
func TestDrawnP9_4(t *testing.T) {
	r, l := draws(1), edges()
	var heads, entries, none int
	for range 20000 {
		h, e := drawnWords(r, l, headKinds), drawnWords(r, l, entryKinds)
		if r.Intn(2) == 0 {
			h[r.Intn(8)], e[r.Intn(3)] = r.Uint64()>>r.Intn(64), r.Uint64()>>r.Intn(64)
		}
		isHeadHere(t, h)
		isEntryHere(t, e)
		if _, _, ok := Read(h); ok {
			heads++
		} else {
			none++
		}
		if _, ok := ReadEntry(e); ok {
			entries++
		} else {
			none++
		}
	}
	if heads < 10000 || entries < 10000 || none < 4000 {
		t.Errorf("%d heads, %d entries, %d that are none: too few to tell", heads, entries, none)
	}
}

// layDraft: what a draft of a version has anew, laid, and its version.
func layDraft(t *testing.T, a *arena.Arena, l ...api.Op) api.Version {
	t.Helper()
	d, err := draft.New(api.Version{})
	if err != api.OK {
		t.Fatal(err)
	}
	for _, o := range l {
		if _, need := d.Apply(o); need != 0 {
			t.Fatalf("needs %d", need)
		}
	}
	for n, ok := d.Next(); ok; n, ok = d.Next() {
		d.Laid(lay(t, a, n[:]...))
	}
	return d.Version()
}

// A version that a draft told, and entries of its responses, go through an arena's blocks and come back.
func TestArenaP9_4(t *testing.T) {
	a := arenaOf(t, 1000)
	v := layDraft(t, a, api.Op{Code: api.Enqueue, A: 5}, api.Op{Code: api.Enqueue, A: 6}, api.Op{Code: api.Dequeue}, api.Op{Code: api.MapPut, Key: 3, A: 9}, api.Op{Code: api.SemSet, Key: 200, A: 1})
	var cursor uint64
	var entries []api.Entry
	for slot := 254; slot >= 0; slot -= 127 {
		body, _ := ops.PackResp(api.Resp{Kind: api.Unlike, Value: slot})
		note, _ := fields.Note(uint64(slot)+1, body)
		e := api.Entry{Slot: slot, Note: note, Next: cursor}
		w, ok := EntryWords(e)
		if !ok {
			t.Fatalf("%v", e)
		}
		cursor, entries = lay(t, a, w...), append(entries, e)
	}
	slices.Reverse(entries)
	w, ok := Words(cursor, v)
	if !ok {
		t.Fatalf("%v", v)
	}
	top := lay(t, a, w...)
	for h, words := range a.All() {
		if h == top {
			w = words
		}
	}
	c, u, ok := Read(w)
	if !ok || c != cursor || u != v || u.Len != 1 || u.Front != 1 {
		t.Fatalf("%d, %v, %t", c, u, ok)
	}
	if l, ok := List(a, c); !ok || !slices.Equal(l, entries) {
		t.Errorf("%v, %t", l, ok)
	}
	for root, want := range map[uint64]api.Pair{u.Map: {Key: 3, Value: 9}, u.Queue: {Key: 1, Value: 6}, u.Sem: {Key: 200, Value: 1}} {
		if l, ok := quad.List(a, root); !ok || len(l) != 1 || l[0] != want {
			t.Errorf("%v, %t, want %v", l, ok, want)
		}
	}
}
