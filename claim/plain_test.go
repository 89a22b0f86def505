package claim

import (
	"iter"
	"testing"

	"roundelay/api"
	"roundelay/arena"
)

// plain is a claim told as one long row of accesses, by the document's words and in plain numbers.
type plain struct {
	arena   *arena.Arena
	token   uint64
	place   api.Place
	claimed bool
	err     api.Errno
	private []uint64
	done    bool
	// next does one access, and goes on up to the next one.
	next func() (struct{}, bool)
}

func newPlain(t *testing.T, a *arena.Arena, token uint64) *plain {
	p := &plain{arena: a, token: token}
	next, stop := iter.Pull(func(yield func(struct{}) bool) {
		p.run(func() bool { return yield(struct{}{}) })
	})
	t.Cleanup(stop)
	p.next = next
	p.step()
	return p
}

func (p *plain) step() {
	_, more := p.next()
	p.done = !more
}

// run goes through the slots. It waits ahead of each access; wait is false if nobody asks for more.
func (p *plain) run(wait func() bool) {
	if p.token == 0 {
		p.err = api.ErrArg
		return
	}
	slot := 0
	for g, n := range []int{1, 2, 4, 8, 16, 32, 64, 128} {
		seg, goesOn := p.segment(g, n, wait)
		if !goesOn {
			return
		}
		for i := range n {
			if !wait() {
				return
			}
			did, _ := p.arena.Swap(api.Addr{Block: seg, At: 5 * i}, 0, p.token)
			if did {
				p.place, p.claimed = api.Place{Seg: seg, Slot: slot}, true
				return
			}
			slot++
		}
	}
	p.err = api.ErrLong
}

func (p *plain) segment(g, n int, wait func() bool) (uint64, bool) {
	fixed := api.Addr{At: 1 + g}
	for wait() {
		seg, _ := p.arena.Read(fixed)
		if seg != 0 {
			return seg, true
		}
		if !wait() {
			return 0, false
		}
		seg, p.err = p.arena.Lay(make([]uint64, 7*n)...)
		if p.err != api.OK {
			return 0, false
		}
		p.private = []uint64{seg}
		if !wait() {
			return 0, false
		}
		did, _ := p.arena.Swap(fixed, 0, seg)
		if did {
			p.private = nil
			return seg, true
		}
		if !wait() {
			return 0, false
		}
		p.arena.Free(seg)
		p.private = nil
	}
	return 0, false
}
