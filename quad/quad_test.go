package quad

import (
	"math"
	"slices"
	"testing"

	"roundelay/api"
)

var wrongNumbers = []int{math.MinInt, math.MinInt32, -256, -64, -4, -2, -1, 256, 257, 511, 1023, 65536, 1 << 32, math.MaxInt - 1, math.MaxInt}

func TestDigitP7_1(t *testing.T) {
	for key := range 256 {
		for level, d := range path(key) {
			if got := Digit(key, level); got != int(d-'0') {
				t.Errorf("Digit(%d, %d): %d, want %c", key, level, got, d)
			}
		}
	}
	for level, want := range []int{0, 1, 2, 3} {
		if got := Digit(27, level); got != want {
			t.Errorf("Digit(27, %d): %d", level, got)
		}
	}
}

func TestDigitWrongP7_1(t *testing.T) {
	for _, level := range append([]int{4, 5, 6, 7, 8, 16, 31, 32, 63, 64, 65, 128}, wrongNumbers...) {
		for _, key := range []int{0, 1, 2, 3, 27, 85, 170, 255} {
			if got := Digit(key, level); got != 0 {
				t.Errorf("Digit(%d, %d): %d", key, level, got)
			}
		}
	}
	for _, key := range wrongNumbers {
		for level := -2; level < 7; level++ {
			if got := Digit(key, level); got != 0 {
				t.Errorf("Digit(%d, %d): %d", key, level, got)
			}
		}
	}
}

func TestWithP7_1(t *testing.T) {
	n := api.Node{5, 6, 7, 8}
	for _, w := range []uint64{0, 1, 6, 1024, 1025, 65537, math.MaxUint64} {
		for digit, want := range []api.Node{{w, 6, 7, 8}, {5, w, 7, 8}, {5, 6, w, 8}, {5, 6, 7, w}} {
			if got := With(n, digit, w); got != want {
				t.Errorf("With(%v, %d, %d): %v", n, digit, w, got)
			}
		}
		for _, digit := range append([]int{4, 5, 7, 8}, wrongNumbers...) {
			if got := With(n, digit, w); got != n {
				t.Errorf("With(%v, %d, %d): %v", n, digit, w, got)
			}
		}
	}
	if n != (api.Node{5, 6, 7, 8}) {
		t.Errorf("the node that was handed in is %v", n)
	}
}

// All nodes that have words, or none, at each of the digits, up to all mosts.
func TestGreatestP7_1(t *testing.T) {
	words := []uint64{1, math.MaxUint64, 1 << 63, 65537}
	for has := range 16 {
		var n api.Node
		for d := range 4 {
			if has>>d&1 == 1 {
				n[d] = words[d]
			}
		}
		for _, most := range append([]int{0, 1, 2, 3, 4, 5, 7, 8}, wrongNumbers...) {
			want, ok := 0, false
			for d := range 4 {
				if d <= most && has>>d&1 == 1 {
					want, ok = d, true
				}
			}
			if got, found := Greatest(n, most); got != want || found != ok {
				t.Errorf("Greatest(%v, %d): %d, %t, want %d, %t", n, most, got, found, want, ok)
			}
		}
	}
}

func TestNoKeysP7_2(t *testing.T) {
	isTree(t, nil, 0, nil, nil)
	a := arenaOf(t, 100)
	isTree(t, a, 0, nil, nil)
	lay(t, a, 1, 2, 3, 4)
	isTree(t, a, 0, nil, nil)
	for _, h := range []uint64{1, 65536, 65537, 131074, math.MaxUint64} {
		isNone(t, nil, h)
	}
}

func TestByHandP7_2(t *testing.T) {
	a := arenaOf(t, 100)
	leaf := lay(t, a, 6, 0, 0, 0)
	two := lay(t, a, leaf, 0, 0, 0)
	one := lay(t, a, two, 0, 0, 0)
	top := lay(t, a, one, 0, 0, 0)
	isTree(t, a, top, []api.Pair{{Key: 0, Value: 5}}, []uint64{top, one, two, leaf})
	high := lay(t, a, 0, 0, 1, 1024)
	write(t, a, two, 3, high)
	isTree(t, a, top, []api.Pair{{Key: 0, Value: 5}, {Key: 14, Value: 0}, {Key: 15, Value: 1023}}, []uint64{top, one, two, leaf, high})
	write(t, a, two, 0, 0)
	isTree(t, a, top, []api.Pair{{Key: 14, Value: 0}, {Key: 15, Value: 1023}}, []uint64{top, one, two, high})
	far := lay(t, a, 0, 0, high, 0)
	write(t, a, one, 0, 0)
	write(t, a, one, 1, far)
	isTree(t, a, top, []api.Pair{{Key: 26, Value: 0}, {Key: 27, Value: 1023}}, []uint64{top, one, far, high})
}

// A tree of one key for each key, and for the edges of the values.
func TestOneKeyP7_2(t *testing.T) {
	r := draws(1)
	for key := range 256 {
		a := arenaOf(t, 16)
		l := []api.Pair{{Key: key, Value: []int{0, 1, 512, 1023}[r.Intn(4)]}}
		nodes := grow(t, a, r, l)
		s := path(key)
		isTree(t, a, nodes[""], l, []uint64{nodes[""], nodes[s[:1]], nodes[s[:2]], nodes[s[:3]]})
	}
}

// Trees among others, and among blocks that are no nodes: of all numbers of keys, up to all there are.
func TestTreesP7_2(t *testing.T) {
	r := draws(2)
	for n := 1; n <= 256; n++ {
		a := arenaOf(t, 2000)
		grow(t, a, r, drawn(r, 1+r.Intn(9)))
		lay(t, a, 0, 0, 0, 0)
		l := drawn(r, n)
		nodes := grow(t, a, r, l)
		lay(t, a, 9, 9, 9, 9)
		lay(t, a, make([]uint64, 35)...)
		isTree(t, a, nodes[""], l, newPlain(a).handles(nodes[""]))
	}
}

// What is told is as it is when it is asked: nothing is kept.
func TestLaterP7_2(t *testing.T) {
	r := draws(3)
	a := arenaOf(t, 2000)
	l := drawn(r, 20)
	nodes := grow(t, a, r, l)
	handles := newPlain(a).handles(nodes[""])
	isTree(t, a, nodes[""], l, handles)
	leaf, digit := nodes[path(l[7].Key)[:3]], Digit(l[7].Key, 3)
	l[7].Value = (l[7].Value + 1) % 1024
	write(t, a, leaf, digit, uint64(l[7].Value)+1)
	isTree(t, a, nodes[""], l, handles)
	write(t, a, leaf, digit, 1025)
	isNone(t, a, nodes[""])
	write(t, a, leaf, digit, 1)
	l[7].Value = 0
	isTree(t, a, nodes[""], l, handles)
	free(t, a, leaf)
	isNone(t, a, nodes[""])
}

// An answer is one's own: what is done to it, or behind it, is seen in no other one.
func TestAnswersP7_2(t *testing.T) {
	r := draws(4)
	a := arenaOf(t, 2000)
	l := drawn(r, 40)
	top := grow(t, a, r, l)[""]
	handles := newPlain(a).handles(top)
	pairs, _ := List(a, top)
	hs, _ := Handles(a, top)
	clear(pairs[:cap(pairs)])
	clear(hs[:cap(hs)])
	isTree(t, a, top, l, handles)
	p1, _ := List(a, top)
	h1, _ := Handles(a, top)
	p2, _ := List(a, top)
	h2, _ := Handles(a, top)
	clear(p1[:cap(p1)])
	clear(h1[:cap(h1)])
	if !slices.Equal(p2, l) || !slices.Equal(h2, handles) {
		t.Error("two answers share memory")
	}
}

// A node that two words lead to is no less a node of the next level: its keys are there twice over, and its handle at each place.
func TestSharedP7_2(t *testing.T) {
	a := arenaOf(t, 100)
	leaf := lay(t, a, 0, 3, 0, 4)
	two := lay(t, a, leaf, 0, 0, leaf)
	one := lay(t, a, 0, 0, two, 0)
	top := lay(t, a, 0, one, one, 0)
	isTree(t, a, top, []api.Pair{
		{Key: 97, Value: 2}, {Key: 99, Value: 3}, {Key: 109, Value: 2}, {Key: 111, Value: 3},
		{Key: 161, Value: 2}, {Key: 163, Value: 3}, {Key: 173, Value: 2}, {Key: 175, Value: 3},
	}, []uint64{top, one, two, leaf, leaf, one, two, leaf, leaf})
}

func TestNodesP7_3(t *testing.T) {
	r := draws(5)
	for n := 1; n <= 256; n++ {
		a := arenaOf(t, 400)
		top := grow(t, a, r, drawn(r, n))[""]
		pairs, _ := List(a, top)
		handles, ok := Handles(a, top)
		if !ok || len(pairs) != n || len(handles) == 0 || len(handles) > 4*n || len(handles) != a.Len() {
			t.Fatalf("%d keys: %d nodes of %d, %t", len(pairs), len(handles), a.Len(), ok)
		}
	}
}
