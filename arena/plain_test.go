package arena

import (
	"math/rand"
	"slices"
	"testing"

	"roundelay/api"
)

// plain is an arena told by the document's words alone: blocks in a row by their numbers, each looked at one by one.
type plain struct {
	capacity int
	laid     uint64
	fixed    []uint64
	row      []plainBlock
	peak     int
	faults   int
	tally    api.Tally
}

// plainBlock of a number: without words it is free.
type plainBlock struct {
	birth uint64
	words []uint64
}

func newPlain(capacity int) *plain {
	return &plain{capacity: capacity, fixed: make([]uint64, 9)}
}

func (p *plain) used() int {
	n := 0
	for _, b := range p.row {
		n += len(b.words)
	}
	return n
}

func (p *plain) handle(i int) uint64 { return p.row[i].birth*65536 + uint64(i) + 1 }

// at is the place in the row of a block that lives, or -1.
func (p *plain) at(h uint64) int {
	for i, b := range p.row {
		if b.words != nil && p.handle(i) == h {
			return i
		}
	}
	return -1
}

func (p *plain) lay(words []uint64) (uint64, api.Errno) {
	if len(words) == 0 || len(words) > 2048 {
		return 0, api.ErrArg
	}
	if p.used()+len(words) > p.capacity {
		return 0, api.ErrFull
	}
	i := slices.IndexFunc(p.row, func(b plainBlock) bool { return b.words == nil })
	if i < 0 {
		i = len(p.row)
		p.row = append(p.row, plainBlock{})
	}
	p.laid++
	p.row[i] = plainBlock{p.laid, append([]uint64{}, words...)}
	p.peak = max(p.peak, p.used())
	p.tally.Lays++
	return p.handle(i), api.OK
}

func (p *plain) free(h uint64) api.Errno {
	i := p.at(h)
	if i < 0 {
		p.faults++
		return api.ErrGone
	}
	p.row[i] = plainBlock{}
	p.tally.Frees++
	return api.OK
}

func (p *plain) word(x api.Addr) (*uint64, api.Errno) {
	words := p.fixed
	if x.Block != 0 {
		i := p.at(x.Block)
		if i < 0 {
			p.faults++
			return nil, api.ErrGone
		}
		words = p.row[i].words
	}
	for i := range words {
		if i == x.At {
			return &words[i], api.OK
		}
	}
	p.faults++
	return nil, api.ErrRange
}

func (p *plain) handles() []uint64 {
	var l []uint64
	for i, b := range p.row {
		if b.words != nil {
			l = append(l, p.handle(i))
		}
	}
	return l
}

func (p *plain) clone() *plain {
	c := *p
	c.fixed = slices.Clone(p.fixed)
	c.row = slices.Clone(p.row)
	for i := range c.row {
		c.row[i].words = slices.Clone(c.row[i].words)
	}
	return &c
}

// agree holds all that an arena tells against the plain one.
func agree(t *testing.T, a *Arena, p *plain) {
	t.Helper()
	l := p.handles()
	if a.Capacity() != p.capacity || a.Used() != p.used() || a.Peak() != p.peak || a.Len() != len(l) {
		t.Fatalf("Capacity %d, Used %d, Peak %d, Len %d, want %d, %d, %d, %d",
			a.Capacity(), a.Used(), a.Peak(), a.Len(), p.capacity, p.used(), p.peak, len(l))
	}
	if a.Faults() != p.faults || a.Tally() != p.tally {
		t.Fatalf("Faults %d, Tally %v, want %d, %v", a.Faults(), a.Tally(), p.faults, p.tally)
	}
	if !slices.Equal(a.Words(), p.fixed) {
		t.Fatalf("Words %v, want %v", a.Words(), p.fixed)
	}
	i := 0
	for h, words := range a.All() {
		if i >= len(l) || h != l[i] || !slices.Equal(words, p.row[p.at(h)].words) {
			t.Fatalf("All: %d %v at %d, want %v", h, words, i, l)
		}
		if a.Size(h) != len(words) {
			t.Fatalf("Size(%d): %d, want %d", h, a.Size(h), len(words))
		}
		i++
	}
	if i != len(l) {
		t.Fatalf("All: %d blocks, want %d", i, len(l))
	}
}

// walker does the same calls on an arena and on the plain one; the seed is fixed, so that each run sees the same.
type walker struct {
	t    *testing.T
	r    *rand.Rand
	a    *Arena
	p    *plain
	ever []uint64
}

func (w *walker) some() uint64 {
	switch n := w.r.Intn(20); {
	case n == 0:
		return []uint64{1, 65535, 65536, 65537, 131073, 1<<64 - 1, 1 << 44, 1<<44 + 1}[w.r.Intn(8)]
	case n < 4 && len(w.ever) > 0:
		return w.ever[w.r.Intn(len(w.ever))]
	default:
		if l := w.p.handles(); len(l) > 0 {
			return l[w.r.Intn(len(l))]
		}
		return 65537
	}
}

func (w *walker) addr() api.Addr {
	x := api.Addr{At: w.r.Intn(11) - 1}
	if w.r.Intn(4) > 0 {
		x.Block = w.some()
		x.At = w.r.Intn(max(w.a.Size(x.Block), 1)+2) - 1
	}
	return x
}

func (w *walker) value() uint64 {
	return []uint64{0, 1, 2, 3, 1<<64 - 1, 1 << 63}[w.r.Intn(6)]
}

func (w *walker) lay() {
	words := make([]uint64, []int{0, 1, 1, 2, 3, 4, 7, 35, 2049}[w.r.Intn(9)])
	for i := range words {
		words[i] = w.value()
	}
	h, e := w.a.Lay(words...)
	g, f := w.p.lay(words)
	if h != g || e != f {
		w.t.Fatalf("Lay of %d: %d %d, want %d %d", len(words), h, e, g, f)
	}
	if h != 0 {
		w.ever = append(w.ever, h)
	}
}

func (w *walker) free() {
	h := w.some()
	if e, f := w.a.Free(h), w.p.free(h); e != f {
		w.t.Fatalf("Free(%d): %d, want %d", h, e, f)
	}
}

func (w *walker) access() {
	x := w.addr()
	kind, old, n := w.r.Intn(4), w.value(), w.value()
	word, f := w.p.word(x)
	var got, want uint64
	var did, do bool
	var e api.Errno
	switch kind {
	case 0:
		got, e = w.a.Read(x)
		if word != nil {
			want = *word
			w.p.tally.Reads++
		}
	case 1:
		e = w.a.Write(x, n)
		if word != nil {
			*word = n
			w.p.tally.Writes++
		}
	case 2:
		did, e = w.a.Swap(x, old, n)
		if word != nil {
			w.p.tally.Swaps++
			if do = *word == old; do {
				*word = n
			}
		}
	default:
		got, e = w.a.Add(x, n)
		if word != nil {
			want = *word
			*word += n
			w.p.tally.Adds++
		}
	}
	if got != want || did != do || e != f {
		w.t.Fatalf("access %d of %v: %d %v %d, want %d %v %d", kind, x, got, did, e, want, do, f)
	}
}

func walk(t *testing.T, capacity int, seed int64) {
	t.Helper()
	a, e := New(capacity)
	if e != api.OK {
		t.Fatalf("New(%d): %d", capacity, e)
	}
	w := &walker{t: t, r: rand.New(rand.NewSource(seed)), a: a, p: newPlain(capacity)}
	for i := range 3000 {
		switch w.r.Intn(8 + i/500%2*2) {
		case 0, 1:
			w.lay()
		case 2, 8, 9:
			w.free()
		default:
			w.access()
		}
		if i%100 == 0 {
			was := w.a
			w.a, w.p = w.a.Clone(), w.p.clone()
			if !Same(was, w.a) {
				t.Fatal("a clone isn't the same")
			}
			disturb(was)
		}
		if i%7 == 0 {
			agree(t, w.a, w.p)
		}
	}
	agree(t, w.a, w.p)
}

// disturb changes whatever can be changed of an arena.
func disturb(a *Arena) {
	for h := range a.All() {
		a.Write(api.Addr{Block: h}, 77)
		a.Free(h)
		a.Free(h)
	}
	a.Lay(1)
	for at := range 9 {
		a.Add(api.Addr{At: at}, 5)
	}
}

func TestWalkP3(t *testing.T) {
	for _, capacity := range []int{0, 1, 2, 5, 40, 300} {
		for seed := range 4 {
			walk(t, capacity, int64(seed))
		}
	}
}
