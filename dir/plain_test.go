package dir

import (
	"math"

	"roundelay/api"
)

// thing is what a word of a segment is: the word of a slot, or the counter of a node. The other one is -1.
type thing struct{ slot, field, node int }

// plain tells of a segment by the document's words alone, laid out word by word.
type plain struct {
	first int
	// words, by their places in the block.
	words []thing
	// above a node: the one of which it is one of the two below.
	above map[int]int
}

// segments are all of them, one behind the other.
func segments() []plain {
	var l []plain
	first, n := 0, 1
	for range 8 {
		l = append(l, newPlain(first, n))
		first += n
		n += n
	}
	return l
}

func newPlain(first, n int) plain {
	s := plain{first: first, above: map[int]int{}}
	for slot := first; slot < first+n; slot++ {
		for field := range 5 {
			s.words = append(s.words, thing{slot, field, -1})
		}
	}
	for place := range 2 * n {
		s.words = append(s.words, thing{-1, -1, place})
	}
	for node := 1; node < n; node++ {
		s.above[2*node] = node
		s.above[2*node+1] = node
	}
	return s
}

// slots it has.
func (s plain) slots() int { return len(s.words) / 7 }

// place of a thing in the block; -1: there is none.
func (s plain) place(x thing) int {
	for at, w := range s.words {
		if w == x && w.node != 0 {
			return at
		}
	}
	return -1
}

// path from a slot's node up.
func (s plain) path(slot int) []int {
	node := s.slots() + slot - s.first
	l := []int{node}
	for node != 1 {
		node = s.above[node]
		l = append(l, node)
	}
	return l
}

// edges are numbers at and around all limits of slots, segments, nodes, fields and words, and those that are too great or too small.
func edges() []int {
	l := []int{math.MinInt, math.MinInt + 1, math.MaxInt - 1, math.MaxInt}
	for bit := range 63 {
		for n := 1<<bit - 3; n <= 1<<bit+3 && n > 0; n++ {
			l = append(l, n, -n)
		}
	}
	for n := -20; n < 600; n++ {
		l = append(l, n)
	}
	return l
}

// seg is a handle that a segment may have.
const seg = 7*65536 + 3

func at(n int) api.Addr { return api.Addr{Block: seg, At: n} }
