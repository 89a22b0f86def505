package draft

import (
	"math"
	"math/rand"
	"slices"
	"testing"

	"roundelay/api"
	"roundelay/arena"
	"roundelay/model"
	"roundelay/quad"
)

func draws(seed int64) *rand.Rand { return rand.New(rand.NewSource(seed)) }

// mix is of which kind the drawn operations are: how many of ten are upon the queue, how many of ten of these come in, and among how many keys the others are.
type mix struct {
	queue, in, keys int
}

func drawnMix(r *rand.Rand) mix {
	return mix{queue: r.Intn(11), in: []int{1, 5, 9}[r.Intn(3)], keys: []int{2, 6, 20, 256}[r.Intn(4)]}
}

// drawn operation: a right one, with keys that lie close to one another, or far.
func (x mix) drawn(r *rand.Rand) api.Op {
	if r.Intn(10) < x.queue {
		switch {
		case r.Intn(12) == 0:
			return api.Op{Code: api.QueueLen}
		case r.Intn(10) < x.in:
			return api.Op{Code: api.Enqueue, A: r.Intn(1024)}
		}
		return api.Op{Code: api.Dequeue}
	}
	o := api.Op{Code: api.MapGet + r.Intn(11), Key: 255 * r.Intn(x.keys) / max(1, x.keys-1)}
	switch o.Code {
	case api.MapLen:
		o.Key = 0
	case api.MapPut, api.SemSet:
		o.A = []int{0, 1, 1022, 1023, r.Intn(1024)}[r.Intn(5)]
	case api.MapSwap:
		o.A, o.B = r.Intn(3), r.Intn(3)
	}
	return o
}

// says holds the arena's trees of a version against a model; all that lives there is of them.
func says(t *testing.T, a *arena.Arena, v api.Version, m *model.Model) {
	t.Helper()
	nodes := 0
	list := func(top uint64) []api.Pair {
		l, ok := quad.List(a, top)
		hs, right := quad.Handles(a, top)
		if !ok || !right {
			t.Fatalf("%d is no tree", top)
		}
		nodes += len(hs)
		return l
	}
	if l := list(v.Map); !slices.Equal(l, m.Pairs()) || v.MapLen != len(l) {
		t.Fatalf("the map is %v, want %v; MapLen %d", l, m.Pairs(), v.MapLen)
	}
	if l := list(v.Sem); !slices.Equal(l, m.Sems()) || v.SemLen != len(l) {
		t.Fatalf("the semaphores are %v, want %v; SemLen %d", l, m.Sems(), v.SemLen)
	}
	var queue []api.Pair
	for i, value := range m.Queue() {
		queue = append(queue, api.Pair{Key: (v.Front + i) % 256, Value: value})
	}
	slices.SortFunc(queue, func(x, y api.Pair) int { return x.Key - y.Key })
	if l := list(v.Queue); !slices.Equal(l, queue) || v.Len != len(l) {
		t.Fatalf("the queue is %v, want %v; Len %d", l, queue, v.Len)
	}
	if nodes != a.Len() || !Right(v) {
		t.Fatalf("%d nodes of %d blocks; %v", nodes, a.Len(), v)
	}
}

// Versions upon versions: each is drafted, laid, and rid of what was dropped; some drafts come to nothing.
func TestVersionsP8_3(t *testing.T) {
	for seed := range int64(40) {
		r := draws(seed)
		a := arenaOf(t, 5000)
		v, m := api.Version{Front: r.Intn(256)}, model.New()
		x := drawnMix(r)
		for range 25 {
			if r.Intn(5) == 0 {
				x = drawnMix(r)
			}
			b := newBench(t, a, v, m)
			for range 1 + r.Intn([]int{1, 4, 40}[r.Intn(3)]) {
				b.do(x.drawn(r))
			}
			if r.Intn(8) == 0 {
				says(t, a, v, m)
				continue
			}
			b.lay()
			b.freed()
			v, m = b.draft.Version(), b.plain.model
			says(t, a, v, m)
		}
	}
}

// Full trees, and what becomes of them when all of it goes again.
func TestFullTreesP8_3(t *testing.T) {
	r := draws(100)
	a := arenaOf(t, 5000)
	b := newBench(t, a, api.Version{Front: 200}, model.New())
	for _, key := range r.Perm(256) {
		b.do(api.Op{Code: api.MapPut, Key: key, A: r.Intn(1024)})
		b.do(api.Op{Code: api.SemSet, Key: key, A: r.Intn(1024)})
		b.do(api.Op{Code: api.Enqueue, A: r.Intn(1024)})
	}
	b.do(api.Op{Code: api.Enqueue})
	if n := b.lay(); n != 3*85 {
		t.Fatalf("%d nodes of full trees", n)
	}
	v, m := b.draft.Version(), b.plain.model
	says(t, a, v, m)
	if want := (api.Version{Map: v.Map, MapLen: 256, Queue: v.Queue, Front: 200, Len: 256, Sem: v.Sem, SemLen: 256}); v != want {
		t.Fatalf("%v", v)
	}
	b = newBench(t, a, v, m)
	for _, key := range r.Perm(256) {
		b.do(api.Op{Code: api.MapDelete, Key: key})
		b.do(api.Op{Code: api.SemDrop, Key: key})
		b.do(api.Op{Code: api.Dequeue})
	}
	if n := b.lay(); n != 0 {
		t.Fatalf("%d nodes of empty trees", n)
	}
	b.freed()
	says(t, a, b.draft.Version(), model.New())
	if v := b.draft.Version(); v != (api.Version{Front: 200}) || a.Len() != 0 {
		t.Fatalf("%v, %d blocks", v, a.Len())
	}
}

// Each operation alone, upon versions of some keys: it makes at most four nodes, and drops at most four.
func TestOneP8_4(t *testing.T) {
	r := draws(200)
	most := 0
	for range 40 {
		a := arenaOf(t, 5000)
		b := newBench(t, a, api.Version{Front: r.Intn(256)}, model.New())
		x := drawnMix(r)
		for range r.Intn(100) {
			b.do(x.drawn(r))
		}
		b.lay()
		v, m := b.draft.Version(), b.plain.model
		for range 40 {
			one := newBench(t, a.Clone(), v, m)
			o := x.drawn(r)
			one.do(o)
			n := one.lay()
			if dropped := len(one.draft.Dropped()); n > 4 || dropped > 4 {
				t.Fatalf("%v: %d new nodes, %d dropped", o, n, dropped)
			}
			most = max(most, n)
			one.freed()
			says(t, one.arena, one.draft.Version(), one.plain.model)
		}
	}
	if most != 4 {
		t.Errorf("at most %d new nodes: too few to tell", most)
	}
}

// oddWord is any word: 0, a small one, one of the few handles, one above 1024, the greatest one.
func oddWord(r *rand.Rand) uint64 {
	return []uint64{0, 1, uint64(r.Intn(1026)), 5000 + uint64(r.Intn(8)), 1025, r.Uint64(), math.MaxUint64}[r.Intn(7)]
}

func oddOp(r *rand.Rand) api.Op {
	if r.Intn(4) > 0 {
		return mix{queue: 4, in: 5, keys: 6}.drawn(r)
	}
	odd := func() int { return []int{0, 1, -1, 255, 256, 1023, 1024, math.MinInt, math.MaxInt}[r.Intn(9)] }
	return api.Op{Code: r.Intn(17) - 1, Key: odd(), A: odd(), B: odd()}
}

// Whatever a draft is told, in whatever order, each call of it ends, and none panics; what is needed isn't known yet, and is no longer needed when it is.
func TestAnythingEnds(t *testing.T) {
	for seed := range int64(3000) {
		r := draws(seed)
		d := drafted(t, api.Version{
			Map: oddWord(r), MapLen: r.Intn(257), Queue: oddWord(r), Front: r.Intn(256), Len: r.Intn(257), Sem: oddWord(r), SemLen: r.Intn(257),
		})
		known := map[uint64]bool{0: true}
		for range 60 {
			switch r.Intn(12) {
			case 0:
				d.Know(oddWord(r), api.Node{})
			case 1:
				d.Laid(oddWord(r))
			case 2:
				d.Next()
				d.Dropped()
				d.Version()
			}
			_, need := d.Apply(oddOp(r))
			if need != 0 && known[need] {
				t.Fatalf("the draft %d needs %d, which it knows", seed, need)
			}
			if r.Intn(3) > 0 {
				known[need] = true
				d.Know(need, api.Node{oddWord(r), oddWord(r), oddWord(r), oddWord(r)})
			}
		}
		for n := 0; ; n++ {
			if _, ok := d.Next(); !ok {
				break
			}
			if n > 3*85 {
				t.Fatalf("the draft %d has more nodes than three trees", seed)
			}
			d.Laid(uint64(n))
		}
	}
}
