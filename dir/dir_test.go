package dir

import (
	"slices"
	"testing"

	"roundelay/api"
	"roundelay/arena"
)

func TestSegmentP10_1(t *testing.T) {
	for _, x := range []struct {
		slot, g, offset int
		ok              bool
	}{
		{0, 0, 0, true},
		{1, 1, 0, true},
		{2, 1, 1, true},
		{3, 2, 0, true},
		{5, 2, 2, true},
		{6, 2, 3, true},
		{7, 3, 0, true},
		{126, 6, 63, true},
		{127, 7, 0, true},
		{253, 7, 126, true},
		{254, 7, 127, true},
		{-1, 0, 0, false},
		{255, 0, 0, false},
		{256, 0, 0, false},
		{511, 0, 0, false},
	} {
		isSegment(t, x.slot, x.g, x.offset, x.ok)
	}
}

func isSegment(t *testing.T, slot, g, offset int, ok bool) {
	t.Helper()
	gotG, gotOffset, gotOK := Segment(slot)
	if gotG != g || gotOffset != offset || gotOK != ok {
		t.Errorf("Segment(%d): %d, %d, %t, want %d, %d, %t", slot, gotG, gotOffset, gotOK, g, offset, ok)
	}
}

func TestSegmentOfAllP10_1(t *testing.T) {
	count := 0
	for g, s := range segments() {
		for offset := range s.slots() {
			isSegment(t, s.first+offset, g, offset, true)
			count++
		}
	}
	if count != 255 {
		t.Fatalf("%d slots", count)
	}
	for _, slot := range edges() {
		if slot < 0 || slot > 254 {
			isSegment(t, slot, 0, 0, false)
		}
	}
}

func TestSizeP10_1(t *testing.T) {
	sizes := []int{7, 14, 28, 56, 112, 224, 448, 896}
	for g, s := range segments() {
		if Size(g) != sizes[g] || len(s.words) != sizes[g] {
			t.Errorf("Size(%d): %d, laid out: %d, want %d", g, Size(g), len(s.words), sizes[g])
		}
	}
	for _, g := range edges() {
		if (g < 0 || g > 7) && Size(g) != 0 {
			t.Errorf("Size(%d): %d, want 0", g, Size(g))
		}
	}
}

func TestFixedP10_1(t *testing.T) {
	for g := range 8 {
		if x := Fixed(g); x != (api.Addr{Block: 0, At: g + 1}) {
			t.Errorf("Fixed(%d): %v", g, x)
		}
	}
	for _, g := range edges() {
		x := Fixed(g)
		if g < 0 && x != Fixed(0) || g > 7 && x != Fixed(7) {
			t.Errorf("Fixed(%d): %v", g, x)
		}
	}
}

func TestWordP10_2(t *testing.T) {
	for _, x := range []struct {
		slot, field, at int
	}{
		{0, api.Own, 0},
		{0, api.HoldB, 4},
		{1, api.Own, 0},
		{1, api.HoldB, 4},
		{2, api.Own, 5},
		{2, api.Ask, 6},
		{2, api.HoldA, 8},
		{5, api.Told, 12},
		{127, api.Own, 0},
		{254, api.Own, 635},
		{254, api.HoldB, 639},
	} {
		isWord(t, api.Place{Seg: seg, Slot: x.slot}, x.field, at(x.at), true)
	}
}

func isWord(t *testing.T, p api.Place, field int, want api.Addr, ok bool) {
	t.Helper()
	if x, is := Word(p, field); x != want || is != ok {
		t.Errorf("Word(%v, %d): %v, %t, want %v, %t", p, field, x, is, want, ok)
	}
}

func TestWordOfAllP10_2(t *testing.T) {
	for _, s := range segments() {
		for slot := s.first; slot < s.first+s.slots(); slot++ {
			for field := range 5 {
				isWord(t, api.Place{Seg: seg, Slot: slot}, field, at(s.place(thing{slot, field, -1})), true)
			}
		}
	}
}

func TestWordOfNoneP10_2(t *testing.T) {
	for _, slot := range edges() {
		for field := -2; field < 8; field++ {
			if slot < 0 || slot > 254 || field < 0 || field > 4 {
				isWord(t, api.Place{Seg: seg, Slot: slot}, field, api.Addr{}, false)
			}
		}
	}
	for _, field := range edges() {
		for _, slot := range []int{-1, 0, 1, 2, 5, 254, 255} {
			if field < 0 || field > 4 {
				isWord(t, api.Place{Seg: seg, Slot: slot}, field, api.Addr{}, false)
			}
		}
	}
}

func TestCounterP10_2(t *testing.T) {
	for _, x := range []struct {
		g, node, at int
	}{
		{0, 1, 6},
		{1, 1, 11},
		{1, 2, 12},
		{1, 3, 13},
		{2, 1, 21},
		{2, 6, 26},
		{2, 7, 27},
		{7, 1, 641},
		{7, 254, 894},
		{7, 255, 895},
	} {
		isCounter(t, seg, x.g, x.node, at(x.at), true)
	}
}

func isCounter(t *testing.T, handle uint64, g, node int, want api.Addr, ok bool) {
	t.Helper()
	if x, is := Counter(handle, g, node); x != want || is != ok {
		t.Errorf("Counter(%d, %d, %d): %v, %t, want %v, %t", handle, g, node, x, is, want, ok)
	}
}

func TestCounterOfAllP10_2(t *testing.T) {
	for g, s := range segments() {
		for _, node := range edges() {
			place := s.place(thing{-1, -1, node})
			if place < 0 {
				isCounter(t, seg, g, node, api.Addr{}, false)
			} else {
				isCounter(t, seg, g, node, at(place), true)
			}
		}
	}
}

func TestCounterOfNoneP10_2(t *testing.T) {
	for _, g := range edges() {
		for _, node := range []int{-1, 0, 1, 2, 3, 127, 128, 255, 256, 511, 512} {
			if g < 0 || g > 7 {
				isCounter(t, seg, g, node, api.Addr{}, false)
			}
		}
	}
}

// A segment whose handle is 0 isn't there: no address leads among the fixed words.
func TestNoSegmentP10_2(t *testing.T) {
	for slot := -1; slot <= 255; slot++ {
		for field := -1; field <= 5; field++ {
			isWord(t, api.Place{Slot: slot}, field, api.Addr{}, false)
		}
	}
	for g := -1; g <= 8; g++ {
		for node := -1; node <= 256; node++ {
			isCounter(t, 0, g, node, api.Addr{}, false)
		}
	}
}

// The block of an address is the segment's, whichever that is.
func TestBlockP10_2(t *testing.T) {
	for _, handle := range []uint64{65537, 131072 + 65535, seg, 1<<44 - 1} {
		isWord(t, api.Place{Seg: handle, Slot: 5}, api.Told, api.Addr{Block: handle, At: 12}, true)
		isCounter(t, handle, 2, 6, api.Addr{Block: handle, At: 26}, true)
	}
}

func TestPathP10_3(t *testing.T) {
	for _, x := range []struct {
		slot int
		path []int
	}{
		{0, []int{1}},
		{1, []int{2, 1}},
		{2, []int{3, 1}},
		{3, []int{4, 2, 1}},
		{5, []int{6, 3, 1}},
		{126, []int{127, 63, 31, 15, 7, 3, 1}},
		{127, []int{128, 64, 32, 16, 8, 4, 2, 1}},
		{254, []int{255, 127, 63, 31, 15, 7, 3, 1}},
		{-1, nil},
		{255, nil},
	} {
		isPath(t, x.slot, x.path)
	}
}

func isPath(t *testing.T, slot int, want []int) {
	t.Helper()
	if l := Path(slot); !slices.Equal(l, want) {
		t.Errorf("Path(%d): %v, want %v", slot, l, want)
	}
}

func TestPathOfAllP10_3(t *testing.T) {
	for _, s := range segments() {
		for slot := s.first; slot < s.first+s.slots(); slot++ {
			isPath(t, slot, s.path(slot))
		}
	}
	for _, slot := range edges() {
		if slot < 0 || slot > 254 {
			isPath(t, slot, nil)
		}
	}
}

// An answer is new memory: what is done to it is seen in no other one.
func TestPathIsNewP10_3(t *testing.T) {
	l := Path(254)
	_ = append(l[:3], l...)
	clear(l[:cap(l)])
	isPath(t, 254, []int{255, 127, 63, 31, 15, 7, 3, 1})
}

func TestSlotP10_3(t *testing.T) {
	for _, x := range []struct {
		g, node, slot int
		ok            bool
	}{
		{0, 1, 0, true},
		{1, 2, 1, true},
		{1, 3, 2, true},
		{2, 6, 5, true},
		{7, 128, 127, true},
		{7, 255, 254, true},
		{0, 0, 0, false},
		{0, 2, 0, false},
		{1, 1, 0, false},
		{1, 4, 0, false},
		{2, 3, 0, false},
		{7, 127, 0, false},
		{7, 256, 0, false},
		{8, 256, 0, false},
		{-1, 0, 0, false},
		{-1, 1, 0, false},
	} {
		isSlot(t, x.g, x.node, x.slot, x.ok)
	}
}

func isSlot(t *testing.T, g, node, want int, ok bool) {
	t.Helper()
	if slot, is := Slot(g, node); slot != want || is != ok {
		t.Errorf("Slot(%d, %d): %d, %t, want %d, %t", g, node, slot, is, want, ok)
	}
}

func TestSlotOfAllP10_3(t *testing.T) {
	for g, s := range segments() {
		slots := map[int]int{}
		for slot := s.first; slot < s.first+s.slots(); slot++ {
			slots[s.path(slot)[0]] = slot
		}
		for _, node := range edges() {
			slot, ok := slots[node]
			isSlot(t, g, node, slot, ok)
		}
	}
	for _, g := range edges() {
		for _, node := range []int{-1, 0, 1, 2, 3, 128, 255, 256, 511, 512} {
			if g < 0 || g > 7 {
				isSlot(t, g, node, 0, false)
			}
		}
	}
}

// addresses of all words of slots, and of all counters, of a segment.
func addresses(t *testing.T, handle uint64, g int) []api.Addr {
	t.Helper()
	var l []api.Addr
	for slot := range 255 {
		if of, _, _ := Segment(slot); of != g {
			continue
		}
		for field := range api.SlotWords {
			if x, ok := Word(api.Place{Seg: handle, Slot: slot}, field); ok {
				l = append(l, x)
			}
		}
	}
	for node := range 512 {
		if x, ok := Counter(handle, g, node); ok {
			l = append(l, x)
		}
	}
	return l
}

func TestAddressesP10_4(t *testing.T) {
	for g := range api.Segments {
		seen := map[api.Addr]bool{}
		for _, x := range addresses(t, seg, g) {
			if seen[x] {
				t.Errorf("segment %d: %v twice", g, x)
			}
			if x.Block != seg || x.At < 0 || x.At >= Size(g) {
				t.Errorf("segment %d: %v isn't in its block", g, x)
			}
			seen[x] = true
		}
		if len(seen) != Size(g)-1 {
			t.Errorf("segment %d: %d addresses of %d words", g, len(seen), Size(g))
		}
	}
}

// In an arena each word of each segment can be written, and has its own at the end.
func TestInArenaP10_4(t *testing.T) {
	a, e := arena.New(2000)
	if e != api.OK {
		t.Fatal(e)
	}
	var all []api.Addr
	for g := range api.Segments {
		h, e := a.Lay(make([]uint64, Size(g))...)
		if e != api.OK {
			t.Fatalf("Lay of the segment %d: %d", g, e)
		}
		if e := a.Write(Fixed(g), h); e != api.OK {
			t.Fatalf("Write of the fixed word of the segment %d: %d", g, e)
		}
		all = append(all, addresses(t, h, g)...)
	}
	for i, x := range all {
		if e := a.Write(x, uint64(i)+1); e != api.OK {
			t.Errorf("Write of %v: %d", x, e)
		}
	}
	for i, x := range all {
		if w, e := a.Read(x); e != api.OK || w != uint64(i)+1 {
			t.Errorf("Read of %v: %d, %d, want %d", x, w, e, i+1)
		}
	}
	if fixed := a.Words(); fixed[0] != 0 || slices.Contains(fixed[1:], 0) || a.Faults() != 0 {
		t.Errorf("fixed words %v, %d faults", fixed, a.Faults())
	}
}
