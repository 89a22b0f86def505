package model

import (
	"slices"

	"roundelay/api"
)

// plain is a model told by the document's table alone, with plain numbers: rows of pairs in the order in which they came, gone through one by one.
type plain struct {
	queue []int
	dict  []api.Pair
	sems  []api.Pair
}

const (
	kindDone   = 0
	kindNone   = 1
	kindFull   = 2
	kindBusy   = 3
	kindUnlike = 4
)

// uses tells what of Key, A and B a code uses.
func uses(code int) (key, a, b bool) {
	switch code {
	case 1:
		return false, true, false
	case 4, 6, 9, 11, 12, 13, 14:
		return true, false, false
	case 5, 10:
		return true, true, false
	case 7:
		return true, true, true
	}
	return false, false, false
}

func fits(n int, used bool, most int) bool {
	return n == 0 || used && 0 < n && n <= most
}

func rightOp(o api.Op) bool {
	key, a, b := uses(o.Code)
	return 0 <= o.Code && o.Code <= 14 && fits(o.Key, key, 255) && fits(o.A, a, 1023) && fits(o.B, b, 1023)
}

func placeOf(row []api.Pair, key int) int {
	return slices.IndexFunc(row, func(p api.Pair) bool { return p.Key == key })
}

// had tells what a key has.
func had(row []api.Pair, key int) api.Resp {
	if i := placeOf(row, key); i >= 0 {
		return api.Resp{Kind: kindDone, Value: row[i].Value}
	}
	return api.Resp{Kind: kindNone}
}

func with(row []api.Pair, key, value int) []api.Pair {
	return append(without(row, key), api.Pair{Key: key, Value: value})
}

func without(row []api.Pair, key int) []api.Pair {
	var l []api.Pair
	for _, p := range row {
		if p.Key != key {
			l = append(l, p)
		}
	}
	return l
}

func (p *plain) apply(o api.Op) api.Resp {
	if !rightOp(o) {
		return api.Resp{Kind: kindNone}
	}
	switch {
	case o.Code >= 10:
		return p.onSems(o)
	case o.Code >= 4:
		return p.onMap(o)
	}
	return p.onQueue(o)
}

func (p *plain) onQueue(o api.Op) api.Resp {
	n := len(p.queue)
	switch {
	case o.Code == 1 && n == 256:
		return api.Resp{Kind: kindFull}
	case o.Code == 1:
		p.queue = append(p.queue, o.A)
		return api.Resp{Value: n + 1}
	case o.Code == 2 && n > 0:
		first := p.queue[0]
		p.queue = slices.Delete(p.queue, 0, 1)
		return api.Resp{Value: first}
	case o.Code == 3:
		return api.Resp{Value: n}
	}
	return api.Resp{Kind: kindNone}
}

func (p *plain) onMap(o api.Op) api.Resp {
	was := had(p.dict, o.Key)
	switch o.Code {
	case 5:
		p.dict = with(p.dict, o.Key, o.A)
	case 6:
		p.dict = without(p.dict, o.Key)
	case 7:
		if was.Kind == kindDone && was.Value != o.A {
			return api.Resp{Kind: kindUnlike, Value: was.Value}
		}
		if was.Kind == kindDone {
			p.dict = with(p.dict, o.Key, o.B)
		}
	case 8:
		return api.Resp{Value: len(p.dict)}
	case 9:
		return p.floor(o.Key)
	}
	return was
}

func (p *plain) floor(key int) api.Resp {
	best := -1
	for _, x := range p.dict {
		if x.Key <= key {
			best = max(best, 1024*x.Key+x.Value)
		}
	}
	if best < 0 {
		return api.Resp{Kind: kindNone}
	}
	return api.Resp{Value: best}
}

func (p *plain) onSems(o api.Op) api.Resp {
	was := had(p.sems, o.Key)
	now := was.Value
	switch o.Code {
	case 10:
		p.sems = with(p.sems, o.Key, o.A)
		return was
	case 14:
		p.sems = without(p.sems, o.Key)
		return was
	case 13:
		return was
	case 11:
		now--
	case 12:
		now++
	}
	if was.Kind == kindNone {
		return was
	}
	if now < 0 {
		return api.Resp{Kind: kindBusy}
	}
	if now > 1023 {
		return api.Resp{Kind: kindFull}
	}
	p.sems = with(p.sems, o.Key, now)
	return api.Resp{Value: now}
}

func rising(row []api.Pair) []api.Pair {
	l := slices.Clone(row)
	slices.SortFunc(l, func(a, b api.Pair) int { return a.Key - b.Key })
	return l
}

// isLike tells whether a model is just as the plain one, as far as can be seen.
func (p *plain) isLike(m *Model) bool {
	return m.Size() == len(p.queue)+len(p.dict)+len(p.sems) && slices.Equal(m.Queue(), p.queue) &&
		slices.Equal(m.Pairs(), rising(p.dict)) && slices.Equal(m.Sems(), rising(p.sems))
}
