package fields

import (
	"math/rand"
	"testing"

	"roundelay/api"
)

const (
	blockUnit = 65536
	turnUnit  = 1048576
	bodyUnit  = 4294967296
	mostBirth = 268435455
	mostBlock = 65535
	mostTurn  = 1048575
	most32    = 4294967295
	mostWord  = 1<<64 - 1
)

// edges holds the numbers at and around every limit of a part, and those that would overflow when shifted.
func edges() []uint64 {
	l := []uint64{0, 1, 2, 3, 5, 7, 100}
	for _, n := range []uint64{16, 20, 28, 32, 36, 44, 48, 63} {
		p := uint64(1) << n
		l = append(l, p-2, p-1, p, p+1, p+2, 3*p, 5*p+5)
	}
	return append(l, 65537, 131073, mostBirth*blockUnit, mostBirth*blockUnit+mostBlock, mostWord-1, mostWord)
}

// samples holds the edges and words of all sizes; the seed is fixed, so that each run sees the same.
func samples() []uint64 {
	l := edges()
	r := rand.New(rand.NewSource(1))
	for range 400 {
		l = append(l, r.Uint64()>>r.Intn(64))
	}
	return l
}

func isHandle(h uint64) bool {
	birth, block := h/blockUnit, h%blockUnit
	return birth >= 1 && birth <= mostBirth && block != 0
}

func same(t *testing.T, what string, got uint64, gotOK bool, want uint64, wantOK bool) {
	t.Helper()
	if got != want || gotOK != wantOK {
		t.Errorf("%s: %d %v, want %d %v", what, got, gotOK, want, wantOK)
	}
}

func TestHandleP1_1(t *testing.T) {
	for _, x := range []struct {
		birth, block, want uint64
		ok                 bool
	}{
		{1, 1, 65537, true},
		{1, 2, 65538, true},
		{2, 1, 131073, true},
		{1, mostBlock, 131071, true},
		{mostBirth, 1, 17592185978881, true},
		{mostBirth, mostBlock, 17592186044415, true},
		{0, 1, 0, false},
		{1, 0, 0, false},
		{0, 0, 0, false},
		{mostBirth + 1, 1, 0, false},
		{1, mostBlock + 1, 0, false},
		{mostBirth + 1, mostBlock + 1, 0, false},
		{1, mostBlock + 2, 0, false},
		{1<<48 + 1, 1, 0, false},
		{mostWord, mostWord, 0, false},
	} {
		h, ok := Handle(x.birth, x.block)
		same(t, "Handle", h, ok, x.want, x.ok)
	}
	for _, birth := range edges() {
		for _, block := range edges() {
			h, ok := Handle(birth, block)
			if birth < 1 || birth > mostBirth || block < 1 || block > mostBlock {
				same(t, "Handle", h, ok, 0, false)
			} else {
				same(t, "Handle", h, ok, birth*blockUnit+block, true)
			}
		}
	}
}

func TestRightP1_1(t *testing.T) {
	for _, x := range []struct {
		h  uint64
		ok bool
	}{
		{0, false},
		{1, false},
		{65535, false},
		{65536, false},
		{65537, true},
		{131071, true},
		{131072, false},
		{131073, true},
		{mostBirth * blockUnit, false},
		{mostBirth*blockUnit + 1, true},
		{mostBirth*blockUnit + mostBlock, true},
		{(mostBirth + 1) * blockUnit, false},
		{(mostBirth+1)*blockUnit + 1, false},
		{(mostBirth+2)*blockUnit + 1, false},
		{mostWord, false},
	} {
		if Right(x.h) != x.ok {
			t.Errorf("Right(%d): %v", x.h, !x.ok)
		}
	}
	for _, w := range samples() {
		if Right(w) != isHandle(w) {
			t.Errorf("Right(%d): %v", w, !isHandle(w))
		}
	}
}

func TestRootP1_1(t *testing.T) {
	for _, x := range []struct {
		h, turn, want uint64
		ok            bool
	}{
		{0, 0, 0, true},
		{0, 3, 3, true},
		{0, mostTurn, mostTurn, true},
		{65537, 0, 68720525312, true},
		{65537, 5, 68720525317, true},
		{65537, mostTurn, 68721573887, true},
		{17592186044415, mostTurn, mostWord, true},
		{0, mostTurn + 1, 0, false},
		{65537, mostTurn + 1, 0, false},
		{65537, mostWord, 0, false},
		{1, 0, 0, false},
		{7, 1, 0, false},
		{65535, 0, 0, false},
		{65536, 1, 0, false},
		{17592186044416, 0, 0, false},
		{17592186044417, 0, 0, false},
		{mostWord, 0, 0, false},
	} {
		r, ok := Root(x.h, x.turn)
		same(t, "Root", r, ok, x.want, x.ok)
	}
	for _, h := range edges() {
		for _, turn := range edges() {
			r, ok := Root(h, turn)
			if (h == 0 || isHandle(h)) && turn <= mostTurn {
				same(t, "Root", r, ok, h*turnUnit+turn, true)
			} else {
				same(t, "Root", r, ok, 0, false)
			}
		}
	}
}

func TestNextP1_1(t *testing.T) {
	for _, x := range []struct {
		root, want uint64
		ok         bool
	}{
		{0, 1, true},
		{mostTurn - 1, mostTurn, true},
		{mostTurn, 0, false},
		{turnUnit, 0, false},
		{7*turnUnit + 3, 0, false},
		{65535 * turnUnit, 0, false},
		{65536*turnUnit + 1, 0, false},
		{65537 * turnUnit, 65537*turnUnit + 1, true},
		{65537*turnUnit + 4, 65537*turnUnit + 5, true},
		{65537*turnUnit + mostTurn - 1, 65537*turnUnit + mostTurn, true},
		{65537*turnUnit + mostTurn, 0, false},
		{131072 * turnUnit, 0, false},
		{mostWord - 1, mostWord, true},
		{mostWord, 0, false},
	} {
		r, ok := Next(x.root)
		same(t, "Next", r, ok, x.want, x.ok)
	}
	for _, w := range samples() {
		top := w / turnUnit
		r, ok := Next(w)
		if w%turnUnit != mostTurn && (top == 0 || isHandle(top)) {
			same(t, "Next", r, ok, w+1, true)
		} else {
			same(t, "Next", r, ok, 0, false)
		}
	}
}

func TestNoteP1_1(t *testing.T) {
	for _, x := range []struct {
		seq, body, want uint64
		ok              bool
	}{
		{0, 0, 0, true},
		{0, 1, 1, true},
		{1, 0, bodyUnit, true},
		{1, 5, bodyUnit + 5, true},
		{0, most32, most32, true},
		{most32, 0, 18446744069414584320, true},
		{most32, most32, mostWord, true},
		{most32 + 1, 0, 0, false},
		{0, most32 + 1, 0, false},
		{1, most32 + 1, 0, false},
		{most32 + 1, most32 + 1, 0, false},
		{mostWord, 1, 0, false},
		{1, mostWord, 0, false},
	} {
		n, ok := Note(x.seq, x.body)
		same(t, "Note", n, ok, x.want, x.ok)
	}
	for _, seq := range edges() {
		for _, body := range edges() {
			n, ok := Note(seq, body)
			if seq <= most32 && body <= most32 {
				same(t, "Note", n, ok, seq*bodyUnit+body, true)
			} else {
				same(t, "Note", n, ok, 0, false)
			}
		}
	}
}

func TestPartsP1_2(t *testing.T) {
	for _, w := range samples() {
		for _, x := range []struct {
			name      string
			got, want uint64
		}{
			{"Block", Block(w), w % blockUnit},
			{"Birth", Birth(w), w / blockUnit},
			{"Turn", Turn(w), w % turnUnit},
			{"Top", Top(w), w / turnUnit},
			{"Body", Body(w), w % bodyUnit},
			{"Seq", Seq(w), w / bodyUnit},
		} {
			if x.got != x.want {
				t.Errorf("%s(%d): %d, want %d", x.name, w, x.got, x.want)
			}
		}
	}
}

func TestTakenApartP1_3(t *testing.T) {
	for _, a := range samples() {
		for _, b := range edges() {
			if h, ok := Handle(a, b); ok && (Birth(h) != a || Block(h) != b) {
				t.Errorf("Handle(%d, %d): %d %d", a, b, Birth(h), Block(h))
			}
			if r, ok := Root(a, b); ok && (Top(r) != a || Turn(r) != b) {
				t.Errorf("Root(%d, %d): %d %d", a, b, Top(r), Turn(r))
			}
			if n, ok := Note(a, b); ok && (Seq(n) != a || Body(n) != b) {
				t.Errorf("Note(%d, %d): %d %d", a, b, Seq(n), Body(n))
			}
		}
	}
}

func TestPutTogetherAgainP1_3(t *testing.T) {
	for _, w := range samples() {
		if isHandle(w) {
			h, ok := Handle(Birth(w), Block(w))
			same(t, "Handle", h, ok, w, true)
		}
		if top := Top(w); top == 0 || isHandle(top) {
			r, ok := Root(top, Turn(w))
			same(t, "Root", r, ok, w, true)
		}
		n, ok := Note(Seq(w), Body(w))
		same(t, "Note", n, ok, w, true)
	}
}

func TestUnlikeRootsP1_3(t *testing.T) {
	type parts struct{ h, turn uint64 }
	seen := map[uint64]parts{}
	for _, h := range append(edges(), 65538, 131074, 196609) {
		for _, turn := range edges() {
			r, ok := Root(h, turn)
			if !ok {
				continue
			}
			p := parts{h, turn}
			if q, twice := seen[r]; twice && q != p {
				t.Errorf("Root(%d, %d) is Root(%d, %d)", h, turn, q.h, q.turn)
			}
			seen[r] = p
		}
	}
	if len(seen) < 50 {
		t.Errorf("only %d roots were held against one another", len(seen))
	}
}

// Turns of one root never come back to a word that was told ahead of it: a swap that saw an elder turn has to fail.
func TestTurnsP1_3(t *testing.T) {
	first, _ := Root(65537, 0)
	r, count := first, 0
	for {
		n, ok := Next(r)
		if !ok {
			break
		}
		if n != r+1 || Top(n) != 65537 {
			t.Fatalf("Next(%d): %d", r, n)
		}
		r = n
		count++
	}
	if count != mostTurn || Turn(r) != mostTurn {
		t.Errorf("%d turns, the last one %d", count, Turn(r))
	}
}

func TestLimits(t *testing.T) {
	if api.MostBirth != mostBirth || api.MostBlock != mostBlock || api.MostTurn != mostTurn || api.MostSeq != most32 {
		t.Error("the limits of api aren't those of the document")
	}
}
