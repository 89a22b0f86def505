package quad

import (
	"math"
	"math/rand"
	"slices"
	"testing"

	"roundelay/api"
	"roundelay/arena"
)

// orchard is an arena with a tree, and with much that is none.
type orchard struct {
	*arena.Arena
	pairs   []api.Pair
	handles []uint64
	nodes   map[string]uint64
	// noNodes are words that are neither 0 nor the handle of any level's node.
	noNodes []uint64
}

func newOrchard(t *testing.T) orchard {
	t.Helper()
	a, r := arenaOf(t, 2000), draws(6)
	o := orchard{Arena: a, pairs: []api.Pair{{Key: 0, Value: 0}, {Key: 2, Value: 9}, {Key: 3, Value: 1023}, {Key: 6, Value: 1}, {Key: 40, Value: 77}, {Key: 127, Value: 5}, {Key: 128, Value: 6}, {Key: 255, Value: 1000}}}
	gone, freed := lay(t, a, 1, 2, 3, 4), lay(t, a, 1, 2, 3, 4)
	free(t, a, gone)
	// The new block has the number of the one that is gone, so that the birth alone tells them apart.
	heir := lay(t, a, 1, 2, 3, 4)
	o.nodes = grow(t, a, r, o.pairs)
	o.handles = newPlain(a).handles(o.nodes[""])
	o.noNodes = []uint64{
		gone, heir + 65536*1000, heir - heir%65536, heir % 65536, heir<<20 | 7,
		lay(t, a, 0, 0, 0, 0), lay(t, a, 1), lay(t, a, 1, 2, 3), lay(t, a, 1, 2, 3, 4, 5), lay(t, a, 1, 2, 3, 4, 0), lay(t, a, 1, 2, 3, 4, 5, 6, 7, 8),
		lay(t, a, 1, 2, 3, 1025), lay(t, a, math.MaxUint64, 0, 0, 0),
		1, 5, 1023, 1024, 1025, 65535, 65536, 1 << 44, 1<<44 + 65537, 1 << 63, math.MaxUint64,
	}
	free(t, a, freed)
	o.noNodes = append(o.noNodes, freed)
	return o
}

// Of each node each word is put to each that may not stand there, and back.
func TestWrongWordsP7_2(t *testing.T) {
	o := newOrchard(t)
	top := o.nodes[""]
	isTree(t, o.Arena, top, o.pairs, o.handles)
	for s, h := range o.nodes {
		words := o.noNodes
		for other, x := range o.nodes {
			if len(other) != len(s)+1 {
				words = append(words, x)
			}
		}
		if len(s) == 3 {
			words = slices.DeleteFunc(slices.Clone(words), func(w uint64) bool { return w <= 1024 })
			words = append(words, 1026, 2048, 1<<32, 1<<32+1)
		}
		for digit := range 4 {
			was, _ := o.Read(api.Addr{Block: h, At: digit})
			for _, w := range words {
				write(t, o.Arena, h, digit, w)
				isNone(t, o.Arena, top)
			}
			write(t, o.Arena, h, digit, was)
		}
	}
	isTree(t, o.Arena, top, o.pairs, o.handles)
}

// A node of noughts alone is none, on no level.
func TestNoughtsP7_2(t *testing.T) {
	o := newOrchard(t)
	for _, h := range o.nodes {
		var was [4]uint64
		for digit := range 4 {
			was[digit], _ = o.Read(api.Addr{Block: h, At: digit})
			write(t, o.Arena, h, digit, 0)
		}
		isNone(t, o.Arena, o.nodes[""])
		for digit, w := range was {
			write(t, o.Arena, h, digit, w)
		}
	}
	isTree(t, o.Arena, o.nodes[""], o.pairs, o.handles)
}

func TestWrongRootsP7_2(t *testing.T) {
	o := newOrchard(t)
	for _, h := range o.noNodes {
		isNone(t, o.Arena, h)
	}
	for s, h := range o.nodes {
		if s != "" {
			isNone(t, o.Arena, h)
		}
	}
	for h := range uint64(300) {
		if h != 0 {
			isNone(t, o.Arena, h)
		}
	}
}

// Each node is freed in turn, in an arena apart.
func TestGoneP7_2(t *testing.T) {
	o := newOrchard(t)
	for _, h := range o.nodes {
		a := o.Clone()
		free(t, a, h)
		isNone(t, a, o.nodes[""])
		lay(t, a, 1, 1, 1, 1)
		isNone(t, a, o.nodes[""])
	}
	isTree(t, o.Arena, o.nodes[""], o.pairs, o.handles)
}

// A node that leads back to itself, or to one above it, is none, and is told so.
func TestRingsP7_2(t *testing.T) {
	a := arenaOf(t, 100)
	self := lay(t, a, 0, 0, 0, 0)
	for digit := range 4 {
		write(t, a, self, digit, self)
		isNone(t, a, self)
	}
	x, y := lay(t, a, 0, 0, 0, 0), lay(t, a, 0, 0, 0, 0)
	write(t, a, x, 1, y)
	write(t, a, y, 2, x)
	isNone(t, a, x)
	isNone(t, a, y)
}

// drawnArena has blocks of which most lead to those of the next level, some to anything.
func drawnArena(t *testing.T, r *rand.Rand) (*arena.Arena, []uint64) {
	t.Helper()
	a := arenaOf(t, 1000)
	var all, below []uint64
	odd := []int{20, 60, 400, 100000}[r.Intn(4)]
	for level := 3; level >= 0; level-- {
		var here []uint64
		for range 1 + r.Intn(5) {
			words := make([]uint64, 4)
			if r.Intn(odd) == 0 {
				words = make([]uint64, 1+r.Intn(6))
			}
			for i := range words {
				words[i] = drawnWord(r, all, below, r.Intn(odd) == 0)
			}
			here = append(here, lay(t, a, words...))
		}
		all, below = append(all, here...), here
	}
	return a, all
}

// drawnWord of a block above those below (of a leaf: there are none).
func drawnWord(r *rand.Rand, all, below []uint64, isOdd bool) uint64 {
	switch {
	case isOdd && len(all) > 0 && r.Intn(2) == 0:
		return all[r.Intn(len(all))]
	case isOdd:
		return r.Uint64() >> r.Intn(64)
	case r.Intn(2) == 0:
		return 0
	case len(below) > 0:
		return below[r.Intn(len(below))]
	}
	return 1 + uint64(r.Intn(1024))
}

func TestDrawnP7_2(t *testing.T) {
	r := draws(7)
	var trees, none int
	for range 1500 {
		a, all := drawnArena(t, r)
		p := newPlain(a)
		for _, root := range append(all, 0, r.Uint64(), all[0]+65536) {
			if !p.isTree(root) {
				none++
				isNone(t, a, root)
				continue
			}
			trees++
			pairs, handles := p.list(root), p.handles(root)
			isTree(t, a, root, pairs, handles)
			if len(handles) > 4*len(pairs) {
				t.Fatalf("P7.3: %d nodes of %d keys", len(handles), len(pairs))
			}
		}
	}
	if trees < 2000 || none < 2000 {
		t.Errorf("%d trees, %d that are none: too few to tell", trees, none)
	}
}
