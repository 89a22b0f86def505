package quad

import (
	"maps"
	"math/rand"
	"slices"
	"strconv"
	"strings"
	"testing"

	"roundelay/api"
	"roundelay/arena"
)

// path of a key: its four digits, as text.
func path(key int) string {
	s := strconv.FormatInt(int64(key), 4)
	return strings.Repeat("0", 4-len(s)) + s
}

// plain tells of an arena's trees by the document's words alone: for each level which blocks are nodes of it, and words by paths.
type plain struct {
	blocks map[uint64][]uint64
	levels [4]map[uint64]bool
}

func newPlain(a *arena.Arena) plain {
	p := plain{blocks: maps.Collect(a.All())}
	for level := 3; level >= 0; level-- {
		p.levels[level] = map[uint64]bool{}
		for h, words := range p.blocks {
			p.levels[level][h] = p.isNode(words, level)
		}
	}
	return p
}

func (p plain) isNode(words []uint64, level int) bool {
	if len(words) != 4 || slices.Max(words) == 0 {
		return false
	}
	for _, w := range words {
		if level == 3 && w > 1024 || level < 3 && w != 0 && !p.levels[level+1][w] {
			return false
		}
	}
	return true
}

// at is the word to which these digits lead from the topmost node on, or 0.
func (p plain) at(root uint64, digits string) uint64 {
	for _, d := range digits {
		if root == 0 {
			return 0
		}
		root = p.blocks[root][d-'0']
	}
	return root
}

func (p plain) isTree(root uint64) bool { return root == 0 || p.levels[0][root] }

func (p plain) list(root uint64) []api.Pair {
	var l []api.Pair
	for key := range 256 {
		if w := p.at(root, path(key)); w != 0 {
			l = append(l, api.Pair{Key: key, Value: int(w) - 1})
		}
	}
	return l
}

// handles of the nodes, by the texts of the digits that lead to them: so each is ahead of those below it, and these are by their digits.
func (p plain) handles(root uint64) []uint64 {
	places := map[string]uint64{}
	for key := range 256 {
		for n := range 4 {
			if h := p.at(root, path(key)[:n]); h != 0 {
				places[path(key)[:n]] = h
			}
		}
	}
	var l []uint64
	for _, s := range slices.Sorted(maps.Keys(places)) {
		l = append(l, places[s])
	}
	return l
}

func arenaOf(t *testing.T, capacity int) *arena.Arena {
	t.Helper()
	a, e := arena.New(capacity)
	if e != api.OK {
		t.Fatalf("New(%d): %d", capacity, e)
	}
	return a
}

func lay(t *testing.T, a *arena.Arena, words ...uint64) uint64 {
	t.Helper()
	h, e := a.Lay(words...)
	if e != api.OK {
		t.Fatalf("Lay: %d", e)
	}
	return h
}

func write(t *testing.T, a *arena.Arena, h uint64, at int, w uint64) {
	t.Helper()
	if e := a.Write(api.Addr{Block: h, At: at}, w); e != api.OK {
		t.Fatalf("Write: %d", e)
	}
}

func free(t *testing.T, a *arena.Arena, h uint64) {
	t.Helper()
	if e := a.Free(h); e != api.OK {
		t.Fatalf("Free: %d", e)
	}
}

// grow a tree of these keys and values: its nodes by their paths. They are laid in any order, so their handles tell nothing of where they stand.
func grow(t *testing.T, a *arena.Arena, r *rand.Rand, l []api.Pair) map[string]uint64 {
	t.Helper()
	nodes := map[string]uint64{}
	for _, p := range l {
		for n := range 4 {
			nodes[path(p.Key)[:n]] = 0
		}
	}
	places := slices.Sorted(maps.Keys(nodes))
	r.Shuffle(len(places), func(i, j int) { places[i], places[j] = places[j], places[i] })
	for _, s := range places {
		nodes[s] = lay(t, a, 0, 0, 0, 0)
	}
	for s, h := range nodes {
		if s != "" {
			write(t, a, nodes[s[:len(s)-1]], int(s[len(s)-1]-'0'), h)
		}
	}
	for _, p := range l {
		write(t, a, nodes[path(p.Key)[:3]], int(path(p.Key)[3]-'0'), uint64(p.Value)+1)
	}
	return nodes
}

func draws(seed int64) *rand.Rand { return rand.New(rand.NewSource(seed)) }

// drawn keys, so many of them, with drawn values, rising.
func drawn(r *rand.Rand, n int) []api.Pair {
	keys := r.Perm(256)[:n]
	slices.Sort(keys)
	var l []api.Pair
	for _, key := range keys {
		l = append(l, api.Pair{Key: key, Value: r.Intn(1024)})
	}
	return l
}

// isTree holds what is told of a tree against what is wanted, and looks whether the arena was left as it was.
func isTree(t *testing.T, a *arena.Arena, root uint64, pairs []api.Pair, handles []uint64) {
	t.Helper()
	ask(t, a, root, pairs, handles, true)
}

func isNone(t *testing.T, a *arena.Arena, root uint64) {
	t.Helper()
	ask(t, a, root, nil, nil, false)
}

func ask(t *testing.T, a *arena.Arena, root uint64, pairs []api.Pair, handles []uint64, want bool) {
	t.Helper()
	was, tally, faults := a.Clone(), a.Tally(), a.Faults()
	if l, ok := List(a, root); ok != want || !slices.Equal(l, pairs) {
		t.Fatalf("List of %d: %v, %t, want %v, %t", root, l, ok, pairs, want)
	}
	if l, ok := Handles(a, root); ok != want || !slices.Equal(l, handles) {
		t.Fatalf("Handles of %d: %v, %t, want %v, %t", root, l, ok, handles, want)
	}
	if a.Tally() != tally || a.Faults() != faults || !arena.Same(a, was) {
		t.Fatalf("the arena isn't as it was: %v and %d faults, were %v and %d", a.Tally(), a.Faults(), tally, faults)
	}
}
