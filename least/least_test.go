package least

import (
	"math"
	"math/rand"
	"slices"
	"testing"

	"roundelay/api"
)

const most16 = 65535

// plain is a stock told by the document's words alone: each number is looked at from 1 on.
type plain struct {
	used []bool
	high int
	peak int
}

func newPlain(most int) *plain { return &plain{used: make([]bool, most+1)} }

func (p *plain) take() (int, api.Errno) {
	for n := 1; n < len(p.used); n++ {
		if !p.used[n] {
			p.used[n] = true
			p.high = max(p.high, n)
			p.peak = max(p.peak, p.len())
			return n, api.OK
		}
	}
	return 0, api.ErrFull
}

func (p *plain) isUsed(n int) bool { return n >= 1 && n < len(p.used) && p.used[n] }

func (p *plain) give(n int) api.Errno {
	if !p.isUsed(n) {
		return api.ErrNone
	}
	p.used[n] = false
	return api.OK
}

func (p *plain) len() int {
	count := 0
	for _, u := range p.used {
		if u {
			count++
		}
	}
	return count
}

func (p *plain) clone() *plain {
	return &plain{used: slices.Clone(p.used), high: p.high, peak: p.peak}
}

func stock(t *testing.T, most int) *Stock {
	t.Helper()
	s, e := New(most)
	if s == nil || e != api.OK {
		t.Fatalf("New(%d): %v %d", most, s, e)
	}
	return s
}

func taken(t *testing.T, s *Stock, want int) {
	t.Helper()
	if n, e := s.Take(); n != want || e != api.OK {
		t.Fatalf("Take: %d %d, want %d 0", n, e, want)
	}
}

func refused(t *testing.T, s *Stock, want api.Errno) {
	t.Helper()
	if n, e := s.Take(); n != 0 || e != want {
		t.Fatalf("Take: %d %d, want 0 %d", n, e, want)
	}
}

func given(t *testing.T, s *Stock, n int, want api.Errno) {
	t.Helper()
	if e := s.Give(n); e != want {
		t.Fatalf("Give(%d): %d, want %d", n, e, want)
	}
}

// tells holds all that a stock says of itself against what is in use.
func tells(t *testing.T, s *Stock, high int, used ...int) {
	t.Helper()
	if s.Len() != len(used) || s.High() != high {
		t.Fatalf("Len %d, High %d, want %d, %d", s.Len(), s.High(), len(used), high)
	}
	for n := -2; n <= high+3; n++ {
		if s.Used(n) != slices.Contains(used, n) {
			t.Fatalf("Used(%d): %v", n, s.Used(n))
		}
	}
}

func odd() []int {
	return []int{0, -1, -2, -65535, most16 + 1, most16 + 2, 1 << 20, 1<<32 + 1, 1<<48 + 1, math.MaxInt, math.MaxInt - 1, math.MinInt, math.MinInt + 1}
}

func TestNewP2_1(t *testing.T) {
	for _, most := range []int{-1, -2, -65535, -65536, most16 + 1, most16 + 2, 1 << 20, 1 << 32, 1<<32 + 1, math.MaxInt, math.MinInt} {
		if s, e := New(most); s != nil || e != api.ErrArg {
			t.Errorf("New(%d): %v %d", most, s, e)
		}
	}
	for _, most := range []int{0, 1, 2, 3, 100, most16 - 1, most16} {
		s := stock(t, most)
		tells(t, s, 0)
		given(t, s, 1, api.ErrNone)
	}
}

func TestMostP2_1(t *testing.T) {
	for _, most := range []int{0, 1, 2, 3, 17, most16 - 1, most16} {
		s := stock(t, most)
		for n := 1; n <= most; n++ {
			taken(t, s, n)
			if !s.Used(n) || s.Used(n+1) || s.Len() != n || s.High() != n {
				t.Fatalf("%d of %d: Len %d, High %d", n, most, s.Len(), s.High())
			}
		}
		for range 3 {
			refused(t, s, api.ErrFull)
		}
		if s.Len() != most || s.High() != most {
			t.Fatalf("full at %d: Len %d, High %d", most, s.Len(), s.High())
		}
		for n := most; n >= 1; n-- {
			given(t, s, n, api.OK)
		}
		if s.Len() != 0 || s.High() != most {
			t.Fatalf("empty again: Len %d, High %d", s.Len(), s.High())
		}
		for n := 1; n <= most; n++ {
			taken(t, s, n)
		}
		refused(t, s, api.ErrFull)
	}
}

func TestExampleP2_1(t *testing.T) {
	s := stock(t, 100)
	taken(t, s, 1)
	taken(t, s, 2)
	given(t, s, 1, api.OK)
	tells(t, s, 2, 2)
	taken(t, s, 1)
	tells(t, s, 2, 1, 2)
	taken(t, s, 3)
}

// The greatest number in use may be given back too: what comes next is the least free one, not the one that was given last.
func TestLeastFirstP2_1(t *testing.T) {
	s := stock(t, 8)
	for n := 1; n <= 8; n++ {
		taken(t, s, n)
	}
	for _, n := range []int{5, 2, 8, 3, 7} {
		given(t, s, n, api.OK)
	}
	tells(t, s, 8, 1, 4, 6)
	taken(t, s, 2)
	given(t, s, 1, api.OK)
	for _, n := range []int{1, 3, 5, 7, 8} {
		taken(t, s, n)
	}
	refused(t, s, api.ErrFull)
	given(t, s, 8, api.OK)
	taken(t, s, 8)
}

func TestGiveP2_1(t *testing.T) {
	s := stock(t, 4)
	for _, n := range append(odd(), 1, 2, 4, 5) {
		given(t, s, n, api.ErrNone)
	}
	tells(t, s, 0)
	taken(t, s, 1)
	taken(t, s, 2)
	for _, n := range append(odd(), 3, 4, 5) {
		given(t, s, n, api.ErrNone)
		if s.Used(n) {
			t.Errorf("Used(%d)", n)
		}
	}
	tells(t, s, 2, 1, 2)
	given(t, s, 1, api.OK)
	for range 3 {
		given(t, s, 1, api.ErrNone)
	}
	tells(t, s, 2, 2)
	for _, n := range []int{1, 3, 4} {
		taken(t, s, n)
	}
	refused(t, s, api.ErrFull)
}

func TestHighP2_1(t *testing.T) {
	s := stock(t, 9)
	for n := 1; n <= 5; n++ {
		taken(t, s, n)
	}
	for n := 5; n >= 1; n-- {
		given(t, s, n, api.OK)
		if s.High() != 5 {
			t.Fatalf("High %d behind Give(%d)", s.High(), n)
		}
	}
	taken(t, s, 1)
	tells(t, s, 5, 1)
}

func TestCloneP2_1(t *testing.T) {
	s := stock(t, 5)
	for n := 1; n <= 4; n++ {
		taken(t, s, n)
	}
	given(t, s, 3, api.OK)
	given(t, s, 1, api.OK)
	c := s.Clone()
	if c == s || c == nil {
		t.Fatal("no other stock")
	}
	tells(t, c, 4, 2, 4)
	for _, n := range []int{1, 3, 5} {
		taken(t, c, n)
	}
	refused(t, c, api.ErrFull)
	tells(t, s, 4, 2, 4)
	given(t, s, 2, api.OK)
	given(t, s, 4, api.OK)
	tells(t, c, 5, 1, 2, 3, 4, 5)
	for n := 1; n <= 5; n++ {
		taken(t, s, n)
	}
	refused(t, s, api.ErrFull)
	given(t, c, 2, api.OK)
	tells(t, s, 5, 1, 2, 3, 4, 5)
	tells(t, c, 5, 1, 3, 4, 5)
}

func TestCloneOfNewP2_1(t *testing.T) {
	for _, most := range []int{0, 1, 3} {
		s := stock(t, most)
		c := s.Clone().Clone()
		tells(t, c, 0)
		for n := 1; n <= most; n++ {
			taken(t, c, n)
		}
		refused(t, c, api.ErrFull)
		tells(t, s, 0)
	}
}

// Both go on in the row's spare room: what one gives back must not be laid over what the other did.
func TestCloneSpareRoomP2_1(t *testing.T) {
	s := stock(t, 40)
	for n := 1; n <= 40; n++ {
		taken(t, s, n)
	}
	for n := 1; n <= 9; n++ {
		given(t, s, n, api.OK)
	}
	taken(t, s, 1)
	c := s.Clone()
	given(t, c, 30, api.OK)
	given(t, s, 20, api.OK)
	for _, n := range []int{2, 3, 4, 5, 6, 7, 8, 9, 20} {
		taken(t, s, n)
	}
	refused(t, s, api.ErrFull)
	for _, n := range []int{2, 3, 4, 5, 6, 7, 8, 9, 30} {
		taken(t, c, n)
	}
	refused(t, c, api.ErrFull)
}

func TestNilP2_1(t *testing.T) {
	var s *Stock
	refused(t, s, api.ErrNil)
	for _, n := range append(odd(), 1, 2) {
		given(t, s, n, api.ErrNil)
		if s.Used(n) {
			t.Errorf("Used(%d) of nil", n)
		}
	}
	if s.Len() != 0 || s.High() != 0 || s.Clone() != nil {
		t.Errorf("nil: %d %d %v", s.Len(), s.High(), s.Clone())
	}
}

// Two stocks have nothing in common.
func TestApartP2_1(t *testing.T) {
	a, b := stock(t, 3), stock(t, 3)
	taken(t, a, 1)
	taken(t, a, 2)
	tells(t, b, 0)
	taken(t, b, 1)
	given(t, a, 1, api.OK)
	tells(t, a, 2, 2)
	tells(t, b, 1, 1)
}

// walk does some thousand calls on a stock and on the plain one; the seed is fixed, so that each run sees the same.
func walk(t *testing.T, most int, seed int64) {
	t.Helper()
	r := rand.New(rand.NewSource(seed))
	s, p := stock(t, most), newPlain(most)
	// lean is how much taking is liked better than giving: it turns, so that stocks are filled and emptied.
	lean := 7
	for i := range 4000 {
		if i%(3*most+5) == 0 {
			lean = 10 - lean
		}
		if r.Intn(10) < lean {
			n, e := p.take()
			if e != api.OK {
				refused(t, s, e)
			} else {
				taken(t, s, n)
			}
		} else {
			n := r.Intn(most+4) - 1
			given(t, s, n, p.give(n))
		}
		if i%50 == 0 {
			was := s
			s, p = s.Clone(), p.clone()
			was.Take()
			was.Give(1)
		}
		agree(t, s, p)
	}
}

func agree(t *testing.T, s *Stock, p *plain) {
	t.Helper()
	if s.Len() != p.len() || s.High() != p.high {
		t.Fatalf("Len %d, High %d, want %d, %d", s.Len(), s.High(), p.len(), p.high)
	}
	if s.High() > p.peak {
		t.Fatalf("High %d, but at most %d were in use", s.High(), p.peak)
	}
	for n := -1; n <= len(p.used)+1; n++ {
		if s.Used(n) != p.isUsed(n) {
			t.Fatalf("Used(%d): %v", n, s.Used(n))
		}
	}
}

func TestWalkP2_1(t *testing.T) {
	for _, most := range []int{0, 1, 2, 3, 7, 30, 100} {
		for seed := range 4 {
			walk(t, most, int64(seed))
		}
	}
}

// What is taken is held in a set of the test's own, so that a number told twice is seen whatever the stock says of it.
func TestNeverTwiceP2_2(t *testing.T) {
	r := rand.New(rand.NewSource(2))
	s := stock(t, most16)
	held, list, peak := map[int]bool{}, []int{}, 0
	for i := range 200000 {
		if len(list) == 0 || r.Intn(20) < 9+i/20000%3 {
			n, e := s.Take()
			if e != api.OK || held[n] || n < 1 || n > most16 {
				t.Fatalf("Take: %d %d, held: %v", n, e, held[n])
			}
			held[n] = true
			list = append(list, n)
			peak = max(peak, len(list))
		} else {
			at := r.Intn(len(list))
			given(t, s, list[at], api.OK)
			delete(held, list[at])
			list[at] = list[len(list)-1]
			list = list[:len(list)-1]
		}
		if s.Len() != len(held) || s.High() > peak {
			t.Fatalf("Len %d, High %d; %d are held, at most %d were", s.Len(), s.High(), len(held), peak)
		}
	}
	if peak < 1000 {
		t.Errorf("only %d were in use at one time", peak)
	}
}

func TestHighP2_2(t *testing.T) {
	s := stock(t, most16)
	for range 1000 {
		taken(t, s, 1)
		taken(t, s, 2)
		taken(t, s, 3)
		for _, n := range []int{2, 3, 1} {
			given(t, s, n, api.OK)
		}
		if s.High() != 3 {
			t.Fatalf("High %d, but three at most were in use", s.High())
		}
	}
}

// A call that answers an error is held against a stock that never was asked for it.
func TestErrorsChangeNothing(t *testing.T) {
	for used := range 6 {
		a, b := stock(t, 5), stock(t, 5)
		for range used {
			a.Take()
			b.Take()
		}
		a.Give(2)
		b.Give(2)
		for _, n := range append(odd(), 2, 6, used+1) {
			given(t, a, n, api.ErrNone)
		}
		for range 5 - a.Len() {
			n, e := a.Take()
			m, f := b.Take()
			if n != m || e != f {
				t.Fatalf("%d %d, want %d %d", n, e, m, f)
			}
		}
		refused(t, a, api.ErrFull)
		for n := 5; n >= 1; n-- {
			given(t, a, n, api.OK)
			refused(t, b, api.ErrFull)
			given(t, b, n, api.OK)
			taken(t, a, n)
			taken(t, b, n)
		}
	}
}
