package draft

import (
	"maps"
	"slices"
	"strconv"
	"strings"
	"testing"

	"roundelay/api"
	"roundelay/arena"
	"roundelay/model"
	"roundelay/ops"
)

// place of a key, of a node, or of a value, in words: the tree's letter (m, q or s), and the digits that lead there.
func place(tree string, key int) string {
	s := strconv.FormatInt(int64(key), 4)
	return tree + strings.Repeat("0", 4-len(s)) + s
}

// onWay are the places of the nodes that lead to a key, the topmost one first.
func onWay(key string) []string {
	return []string{key[:1], key[:2], key[:3], key[:4]}
}

// plain is a draft told by the document's words, without trees: the words by the places of their keys, and what stands at the nodes' places.
type plain struct {
	words   map[string]uint64
	olds    map[string]uint64
	news    map[string]int
	laid    map[string]uint64
	known   map[uint64]bool
	dropped []uint64
	made    int
	front   int
	model   *model.Model
}

// newPlain of a version whose trees stand in these blocks, and are right. What the version says is the model.
func newPlain(blocks map[uint64][]uint64, v api.Version, m *model.Model) *plain {
	p := &plain{
		words: map[string]uint64{}, olds: map[string]uint64{}, news: map[string]int{}, laid: map[string]uint64{},
		known: map[uint64]bool{}, front: v.Front, model: m.Clone(),
	}
	p.look(blocks, "m", v.Map)
	p.look(blocks, "q", v.Queue)
	p.look(blocks, "s", v.Sem)
	return p
}

func (p *plain) look(blocks map[uint64][]uint64, at string, word uint64) {
	switch {
	case word == 0:
	case len(at) == 5:
		p.words[at] = word
	default:
		p.olds[at] = word
		for digit, w := range blocks[word] {
			p.look(blocks, at+strconv.Itoa(digit), w)
		}
	}
}

// finds are the places of the keys that an operation finds, in order.
func (p *plain) finds(o api.Op) []string {
	n := len(p.model.Queue())
	switch o.Code {
	case api.Enqueue:
		if n < 256 {
			return []string{place("q", (p.front+n)%256)}
		}
	case api.Dequeue:
		if n > 0 {
			return []string{place("q", p.front)}
		}
	case api.MapGet, api.MapPut, api.MapDelete, api.MapSwap:
		return []string{place("m", o.Key)}
	case api.MapFloor:
		return p.floors(o.Key)
	case api.SemSet, api.SemAcquire, api.SemRelease, api.SemValue, api.SemDrop:
		return []string{place("s", o.Key)}
	}
	return nil
}

func (p *plain) floors(key int) []string {
	var l []string
	for k := key; k >= 0; k-- {
		l = append(l, place("m", k))
		if p.words[place("m", k)] != 0 {
			break
		}
	}
	return l
}

// needs is the handle of the first node that an operation comes to, and that isn't known, or 0.
func (p *plain) needs(o api.Op) uint64 {
	if !ops.Right(o) {
		return 0
	}
	for _, key := range p.finds(o) {
		for _, at := range onWay(key) {
			h, old := p.olds[at]
			if old && !p.known[h] {
				return h
			}
			if _, isNew := p.news[at]; !old && !isNew {
				break
			}
		}
	}
	return 0
}

// apply an operation that needs nothing more.
func (p *plain) apply(o api.Op) api.Resp {
	n := len(p.model.Queue())
	r := p.model.Apply(o)
	switch {
	case o.Code == api.Enqueue && r.Kind == api.Done:
		p.write(place("q", (p.front+n)%256), uint64(o.A)+1)
	case o.Code == api.Dequeue && r.Kind == api.Done:
		p.write(place("q", p.front), 0)
		p.front = (p.front + 1) % 256
	}
	p.settle("m", p.model.Pairs())
	p.settle("s", p.model.Sems())
	return r
}

// settle a tree's words by what the model has now: at most one of them is another one.
func (p *plain) settle(tree string, l []api.Pair) {
	now := map[string]uint64{}
	for _, x := range l {
		now[place(tree, x.Key)] = uint64(x.Value) + 1
	}
	for key := range 256 {
		if at := place(tree, key); p.words[at] != now[at] {
			p.write(at, now[at])
		}
	}
}

func (p *plain) write(key string, w uint64) {
	for _, at := range onWay(key) {
		if h, old := p.olds[at]; old {
			delete(p.olds, at)
			p.dropped = append(p.dropped, h)
		} else if _, isNew := p.news[at]; isNew {
			continue
		}
		p.made++
		p.news[at] = p.made
	}
	delete(p.words, key)
	if w != 0 {
		p.words[key] = w
	}
	for _, at := range onWay(key) {
		if !p.has(at) {
			delete(p.news, at)
		}
	}
}

// has tells whether any key below this place has a word.
func (p *plain) has(at string) bool {
	for key := range p.words {
		if strings.HasPrefix(key, at) {
			return true
		}
	}
	return false
}

// toLay are the places of the new nodes, in the order in which they are to be laid.
func (p *plain) toLay() []string {
	return slices.SortedFunc(maps.Keys(p.news), func(a, b string) int {
		if len(a) != len(b) {
			return len(b) - len(a)
		}
		return p.news[a] - p.news[b]
	})
}

// word at a place: a value and one, or a node's handle, as far as it is known.
func (p *plain) word(at string) uint64 {
	return p.words[at] + p.olds[at] + p.laid[at]
}

func (p *plain) node(at string) api.Node {
	return api.Node{p.word(at + "0"), p.word(at + "1"), p.word(at + "2"), p.word(at + "3")}
}

func (p *plain) version() api.Version {
	return api.Version{
		Map: p.word("m"), MapLen: len(p.model.Pairs()),
		Queue: p.word("q"), Front: p.front, Len: len(p.model.Queue()),
		Sem: p.word("s"), SemLen: len(p.model.Sems()),
	}
}

// bench is a draft and a plain one, upon a version in an arena.
type bench struct {
	t     *testing.T
	arena *arena.Arena
	draft *Draft
	plain *plain
	count int
}

func newBench(t *testing.T, a *arena.Arena, v api.Version, m *model.Model) *bench {
	t.Helper()
	return &bench{t: t, arena: a, draft: drafted(t, v), plain: newPlain(maps.Collect(a.All()), v, m)}
}

func drafted(t *testing.T, v api.Version) *Draft {
	t.Helper()
	d, e := New(v)
	if d == nil || e != api.OK {
		t.Fatalf("New(%v): %v, %d", v, d, e)
	}
	return d
}

func arenaOf(t *testing.T, capacity int) *arena.Arena {
	t.Helper()
	a, e := arena.New(capacity)
	if e != api.OK {
		t.Fatalf("arena.New(%d): %d", capacity, e)
	}
	return a
}

// nodeOf an arena, as one would read it.
func nodeOf(t *testing.T, a *arena.Arena, h uint64) api.Node {
	t.Helper()
	var n api.Node
	for i := range n {
		w, e := a.Read(api.Addr{Block: h, At: i})
		if e != api.OK {
			t.Fatalf("word %d of the block %d: %d", i, h, e)
		}
		n[i] = w
	}
	return n
}

// do an operation on both: each node that is needed is told, till none is.
func (b *bench) do(o api.Op) {
	b.t.Helper()
	for {
		need := b.plain.needs(o)
		if need == 0 {
			break
		}
		b.refused(o, need)
		b.plain.known[need] = true
		b.draft.Know(need, nodeOf(b.t, b.arena, need))
	}
	dropped := len(b.plain.dropped)
	want := b.plain.apply(o)
	if r, need := b.draft.Apply(o); r != want || need != 0 {
		b.t.Fatalf("%q, number %d: %q and %d, want %q", ops.Text(o), b.count, ops.TextResp(r), need, ops.TextResp(want))
	}
	b.count++
	b.isSame()
	if n := len(b.plain.dropped) - dropped; n > 4 {
		b.t.Fatalf("P8.4: %q drops %d", ops.Text(o), n)
	}
}

// refused holds what is answered when a node is needed; nothing may have been done.
func (b *bench) refused(o api.Op, want uint64) {
	b.t.Helper()
	for range 2 {
		if r, need := b.draft.Apply(o); r != (api.Resp{}) || need != want {
			b.t.Fatalf("%q, number %d: %v and %d, want the need of %d", ops.Text(o), b.count, r, need, want)
		}
		b.isSame()
	}
}

// isSame holds all that the draft tells against the plain one.
func (b *bench) isSame() {
	b.t.Helper()
	if got, want := b.draft.Version(), b.plain.version(); got != want {
		b.t.Fatalf("behind %d operations the version is %v, want %v", b.count, got, want)
	}
	if got := b.draft.Dropped(); !slices.Equal(got, b.plain.dropped) {
		b.t.Fatalf("behind %d operations dropped are %v, want %v", b.count, got, b.plain.dropped)
	}
	var first api.Node
	l := b.plain.toLay()
	if len(l) > 0 {
		first = b.plain.node(l[0])
	}
	if got, ok := b.draft.Next(); got != first || ok != (len(l) > 0) {
		b.t.Fatalf("behind %d operations the next node is %v, %t, want %v of %d", b.count, got, ok, first, len(l))
	}
}

// lay all new nodes; how many there were.
func (b *bench) lay() int {
	b.t.Helper()
	l := b.plain.toLay()
	for _, at := range l {
		want := b.plain.node(at)
		got, ok := b.draft.Next()
		if again, _ := b.draft.Next(); !ok || got != want || again != got {
			b.t.Fatalf("the node at %s is %v, %t, then %v, want %v", at, got, ok, again, want)
		}
		h, e := b.arena.Lay(got[:]...)
		if e != api.OK {
			b.t.Fatalf("Lay: %d", e)
		}
		b.draft.Laid(h)
		b.plain.laid[at] = h
		if got, want := b.draft.Version(), b.plain.version(); got != want {
			b.t.Fatalf("behind the node at %s the version is %v, want %v", at, got, want)
		}
	}
	if n, ok := b.draft.Next(); ok || n != (api.Node{}) {
		b.t.Fatalf("behind all %d nodes there is one more, %v", len(l), n)
	}
	if len(l) > 4*b.count {
		b.t.Fatalf("P8.4: %d new nodes of %d operations", len(l), b.count)
	}
	return len(l)
}

// freed frees what was dropped.
func (b *bench) freed() {
	b.t.Helper()
	for _, h := range b.draft.Dropped() {
		if e := b.arena.Free(h); e != api.OK {
			b.t.Fatalf("Free(%d): %d", h, e)
		}
	}
}
