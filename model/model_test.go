package model

import (
	"math"
	"math/rand"
	"slices"
	"testing"

	"roundelay/api"
	"roundelay/ops"
)

// parsed operations; a wrong text ends the test.
func parsed(t *testing.T, texts ...string) []api.Op {
	t.Helper()
	var l []api.Op
	for _, s := range texts {
		o, ok := ops.Parse(s)
		if !ok {
			t.Fatalf("%q is no operation's text", s)
		}
		l = append(l, o)
	}
	return l
}

func texts(l []api.Resp) []string {
	var s []string
	for _, r := range l {
		s = append(s, ops.TextResp(r))
	}
	return s
}

// made is a model to which operations were applied.
func made(t *testing.T, texts ...string) *Model {
	t.Helper()
	m := New()
	m.Run(parsed(t, texts...)...)
	return m
}

func resp(t *testing.T, m *Model, s, want string) {
	t.Helper()
	if r := ops.TextResp(m.Apply(parsed(t, s)[0])); r != want {
		t.Fatalf("%s: %q, want %q", s, r, want)
	}
}

func isEmpty(m *Model) bool {
	return m.Size() == 0 && len(m.Queue()) == 0 && len(m.Pairs()) == 0 && len(m.Sems()) == 0
}

func TestNewP6_1(t *testing.T) {
	a, b := New(), New()
	if a == nil || a == b || !isEmpty(a) || !Same(a, b) {
		t.Fatal("a new model isn't an empty one of its own")
	}
	resp(t, a, "enqueue 1", "done 1")
	resp(t, a, "put 1 1", "none")
	resp(t, a, "set 1 1", "none")
	if !isEmpty(b) || Same(a, b) {
		t.Error("two new models aren't apart")
	}
	for s, want := range map[string]string{
		"none": "none", "dequeue": "none", "length": "done 0", "get 0": "none", "delete 0": "none", "swap 0 0 0": "none", "size": "done 0", "floor 255": "none",
		"acquire 0": "none", "release 0": "none", "value 0": "none", "drop 0": "none",
	} {
		resp(t, b, s, want)
		if !isEmpty(b) {
			t.Fatalf("%s made something", s)
		}
	}
}

// Each row: what was done, what is asked, and what is answered, by the document's table.
func TestRowsP6_1(t *testing.T) {
	for _, x := range []struct {
		ops, want []string
	}{
		{[]string{"enqueue 5", "dequeue", "dequeue"}, []string{"done 1", "done 5", "none"}},
		{[]string{"enqueue 1", "enqueue 2", "enqueue 1", "length", "dequeue", "dequeue", "length", "dequeue"}, []string{"done 1", "done 2", "done 3", "done 3", "done 1", "done 2", "done 1", "done 1"}},
		{[]string{"enqueue 0", "enqueue 1023", "dequeue", "dequeue", "length"}, []string{"done 1", "done 2", "done 0", "done 1023", "done 0"}},
		{[]string{"put 5 7", "put 5 8", "get 5", "size", "delete 5", "delete 5", "get 5", "size"}, []string{"none", "done 7", "done 8", "done 1", "done 8", "none", "none", "done 0"}},
		{[]string{"put 0 0", "get 0", "put 255 1023", "get 255", "get 1", "get 254", "size"}, []string{"none", "done 0", "none", "done 1023", "none", "none", "done 2"}},
		{[]string{"swap 3 0 1", "get 3", "put 3 0", "swap 3 1 0", "get 3", "swap 3 0 9", "get 3", "swap 3 9 9", "get 3"}, []string{"none", "none", "none", "unlike 0", "done 0", "done 0", "done 9", "done 9", "done 9"}},
		{[]string{"put 3 1023", "swap 3 0 1", "swap 3 1023 0", "swap 3 0 1023", "size"}, []string{"none", "unlike 1023", "done 1023", "done 0", "done 1"}},
		{[]string{"put 4 9", "floor 3", "floor 4", "floor 5", "floor 255"}, []string{"none", "none", "done 4105", "done 4105", "done 4105"}},
		{[]string{"put 0 0", "floor 0", "floor 255", "put 255 1023", "floor 254", "floor 255"}, []string{"none", "done 0", "done 0", "none", "done 0", "done 262143"}},
		{[]string{"put 7 1", "put 9 0", "floor 8", "floor 9", "delete 7", "floor 8", "floor 10"}, []string{"none", "none", "done 7169", "done 9216", "done 1", "none", "done 9216"}},
		{[]string{"set 2 3", "value 2", "set 2 0", "value 2", "drop 2", "drop 2", "value 2", "acquire 2", "release 2"}, []string{"none", "done 3", "done 3", "done 0", "done 0", "none", "none", "none", "none"}},
		{[]string{"set 2 2", "acquire 2", "acquire 2", "acquire 2", "value 2", "release 2", "acquire 2"}, []string{"none", "done 1", "done 0", "busy", "done 0", "done 1", "done 0"}},
		{[]string{"set 0 1022", "release 0", "release 0", "value 0", "acquire 0", "release 0", "set 0 1023", "release 0"}, []string{"none", "done 1023", "full", "done 1023", "done 1022", "done 1023", "done 1023", "full"}},
		{[]string{"set 255 1", "value 255", "value 254", "acquire 0", "drop 255", "set 255 4", "value 255"}, []string{"none", "done 1", "none", "none", "done 1", "none", "done 4"}},
		{[]string{"put 1 5", "value 1", "set 2 6", "get 2", "size", "floor 255", "drop 1", "delete 2", "get 1", "value 2"}, []string{"none", "none", "none", "none", "done 1", "done 1029", "none", "none", "done 5", "done 6"}},
		{[]string{"none", "enqueue 1", "none", "dequeue"}, []string{"none", "done 1", "none", "done 1"}},
	} {
		if got := texts(New().Run(parsed(t, x.ops...)...)); !slices.Equal(got, x.want) {
			t.Errorf("%q: %q, want %q", x.ops, got, x.want)
		}
	}
}

func TestTellsP6_1(t *testing.T) {
	m := made(t, "enqueue 7", "put 200 1", "set 9 2", "enqueue 3", "put 0 5", "enqueue 7", "set 0 0", "put 30 1023", "set 255 1023")
	if m.Size() != 9 {
		t.Errorf("Size: %d", m.Size())
	}
	if l := m.Queue(); !slices.Equal(l, []int{7, 3, 7}) {
		t.Errorf("Queue: %v", l)
	}
	if l := m.Pairs(); !slices.Equal(l, []api.Pair{{Key: 0, Value: 5}, {Key: 30, Value: 1023}, {Key: 200, Value: 1}}) {
		t.Errorf("Pairs: %v", l)
	}
	if l := m.Sems(); !slices.Equal(l, []api.Pair{{Key: 0, Value: 0}, {Key: 9, Value: 2}, {Key: 255, Value: 1023}}) {
		t.Errorf("Sems: %v", l)
	}
}

func TestFullQueueP6_1(t *testing.T) {
	m, p := New(), plain{}
	for n := range 256 {
		o := api.Op{Code: api.Enqueue, A: n * 4}
		if r := m.Apply(o); r != (api.Resp{Value: n + 1}) || r != p.apply(o) {
			t.Fatalf("the enqueue %d: %v", n, r)
		}
	}
	for range 3 {
		resp(t, m, "enqueue 1", "full")
		resp(t, m, "length", "done 256")
	}
	if !p.isLike(m) {
		t.Fatal("an enqueue that was full has changed the model")
	}
	resp(t, m, "dequeue", "done 0")
	resp(t, m, "enqueue 1", "done 256")
	resp(t, m, "enqueue 2", "full")
	want := []int{}
	for n := range 255 {
		want = append(want, n*4+4)
	}
	if want = append(want, 1); !slices.Equal(m.Queue(), want) {
		t.Errorf("the queue is %v", m.Queue())
	}
	for _, n := range want {
		if r := m.Apply(api.Op{Code: api.Dequeue}); r != (api.Resp{Value: n}) {
			t.Fatalf("dequeue: %v, want %d", r, n)
		}
	}
	resp(t, m, "dequeue", "none")
}

// All keys and all semaphores there are: the greatest size of all.
func TestGreatestSizeP6_1(t *testing.T) {
	m, p := New(), &plain{}
	for n := range 256 {
		for _, o := range []api.Op{
			{Code: api.MapPut, Key: 255 - n, A: 4 * n},
			{Code: api.SemSet, Key: n * 7 % 256, A: n},
			{Code: api.Enqueue, A: n},
		} {
			if r, want := m.Apply(o), p.apply(o); r != want {
				t.Fatalf("%v: %v, want %v", o, r, want)
			}
		}
	}
	if m.Size() != 768 || !p.isLike(m) {
		t.Fatalf("the size is %d", m.Size())
	}
	for n := range 256 {
		for _, code := range []int{api.MapFloor, api.SemValue, api.MapDelete, api.MapFloor, api.SemDrop, api.Dequeue} {
			o := api.Op{Code: code, Key: n}
			if code == api.Dequeue {
				o.Key = 0
			}
			if r, want := m.Apply(o), p.apply(o); r != want {
				t.Fatalf("%v: %v, want %v", o, r, want)
			}
		}
	}
	if !isEmpty(m) || !Same(m, New()) {
		t.Error("something is left")
	}
}

// All counts that a semaphore may have, down and up again.
func TestAllCountsP6_1(t *testing.T) {
	m := made(t, "set 5 1023", "set 6 7")
	for n := 1022; n >= 0; n-- {
		if r := m.Apply(api.Op{Code: api.SemAcquire, Key: 5}); r != (api.Resp{Value: n}) {
			t.Fatalf("acquire of %d: %v", n+1, r)
		}
	}
	resp(t, m, "acquire 5", "busy")
	resp(t, m, "value 5", "done 0")
	for n := 1; n <= 1023; n++ {
		if r := m.Apply(api.Op{Code: api.SemRelease, Key: 5}); r != (api.Resp{Value: n}) {
			t.Fatalf("release of %d: %v", n-1, r)
		}
	}
	resp(t, m, "release 5", "full")
	if !slices.Equal(m.Sems(), []api.Pair{{Key: 5, Value: 1023}, {Key: 6, Value: 7}}) {
		t.Errorf("the semaphores are %v", m.Sems())
	}
}

// wrongOps has operations that aren't right: each would do something, if what is wrong in it were passed over.
func wrongOps() []api.Op {
	l := []api.Op{
		{Code: -1}, {Code: 15}, {Code: 16}, {Code: 17}, {Code: 1 << 32}, {Code: 1<<32 + 1}, {Code: math.MaxInt}, {Code: math.MinInt}, {Code: math.MinInt + 2},
		{Key: 1}, {A: 1}, {B: 1}, {Key: -1},
		{Code: api.Enqueue, Key: 1}, {Code: api.Enqueue, A: 1024}, {Code: api.Enqueue, A: -1}, {Code: api.Enqueue, A: 5, B: 1}, {Code: api.Enqueue, A: 1 << 32},
		{Code: api.Dequeue, Key: 1}, {Code: api.Dequeue, A: 1}, {Code: api.Dequeue, B: 1}, {Code: api.QueueLen, A: 1}, {Code: api.MapLen, Key: 1},
		{Code: api.MapPut, Key: 256, A: 1}, {Code: api.MapPut, Key: -1, A: 1}, {Code: api.MapPut, Key: 1, A: 1024}, {Code: api.MapPut, Key: 1, A: -1}, {Code: api.MapPut, Key: 1, A: 1, B: 1},
		{Code: api.MapSwap, Key: 1, A: 1, B: 1024}, {Code: api.MapSwap, Key: 1, A: 1, B: -1}, {Code: api.SemSet, Key: 1, A: 1024}, {Code: api.SemSet, Key: 1, A: 5, B: 1},
		{Code: api.MapFloor, Key: 256}, {Code: api.MapFloor, Key: math.MaxInt}, {Code: api.MapFloor, Key: math.MinInt},
	}
	for _, code := range []int{api.MapGet, api.MapDelete, api.MapFloor, api.SemAcquire, api.SemRelease, api.SemValue, api.SemDrop} {
		l = append(l, api.Op{Code: code, Key: 1, A: 1}, api.Op{Code: code, Key: 1, B: 1}, api.Op{Code: code, Key: -1}, api.Op{Code: code, Key: 257}, api.Op{Code: code, Key: 1 + 1<<32})
	}
	return l
}

func TestWrongP6_1(t *testing.T) {
	m := made(t, "enqueue 4", "put 0 3", "put 1 1", "set 0 3", "set 1 1")
	was := m.Clone()
	for _, o := range wrongOps() {
		if r := m.Apply(o); r != (api.Resp{Kind: api.None}) || !Same(m, was) {
			t.Errorf("%v: %v, and the model has changed: %v", o, r, !Same(m, was))
		}
		if l := m.Run(o, o); !slices.Equal(l, []api.Resp{{Kind: api.None}, {Kind: api.None}}) || !Same(m, was) {
			t.Errorf("Run of %v twice: %v", o, l)
		}
	}
	if !slices.Equal(m.Queue(), []int{4}) || !slices.Equal(m.Pairs(), []api.Pair{{Value: 3}, {Key: 1, Value: 1}}) || !slices.Equal(m.Sems(), m.Pairs()) || m.Size() != 5 {
		t.Error("what Same doesn't tell has changed")
	}
}

// numbers at and around every limit.
func numbers() []int {
	return []int{0, 1, 2, 254, 255, 256, 1022, 1023, 1024, 1 << 20, 1 << 32, math.MaxInt, -1, -1024, math.MinInt}
}

// All codes with all numbers at the edges, each asked of one model and of the plain one.
func TestEdgesP6_1(t *testing.T) {
	m, p := New(), &plain{}
	for _, code := range []int{1, 5, 10, 7, 12, 11, 9, 4, 13, 3, 8, 2, 0, 15, -1, 16, 1 << 32, math.MaxInt, math.MinInt, 14, 6} {
		for _, key := range numbers() {
			for _, a := range numbers() {
				for _, b := range numbers() {
					o := api.Op{Code: code, Key: key, A: a, B: b}
					if r, want := m.Apply(o), p.apply(o); r != want {
						t.Fatalf("%v: %v, want %v", o, r, want)
					}
				}
			}
		}
		if !p.isLike(m) {
			t.Fatalf("behind the code %d: %v %v %v", code, m.Queue(), m.Pairs(), m.Sems())
		}
	}
}

// drawn is a right operation, with keys below so many, and values that are often alike and often at the edges.
func drawn(r *rand.Rand, keys int) api.Op {
	o := api.Op{Code: r.Intn(15)}
	key, a, b := uses(o.Code)
	values := []int{0, 0, 1, 1, 2, 1022, 1023, r.Intn(1024)}
	if key {
		o.Key = r.Intn(keys)
	}
	if a {
		o.A = values[r.Intn(len(values))]
	}
	if b {
		o.B = values[r.Intn(len(values))]
	}
	return o
}

func TestDrawnP6_1(t *testing.T) {
	for seed := range int64(40) {
		r := rand.New(rand.NewSource(seed))
		keys := []int{1, 2, 4, 16, 256}[seed%5]
		m, p := New(), &plain{}
		for n := range 400 {
			o := drawn(r, keys)
			if r.Intn(20) == 0 {
				o.B += 1024
			}
			if got, want := m.Apply(o), p.apply(o); got != want {
				t.Fatalf("seed %d, %d: %v: %v, want %v", seed, n, o, got, want)
			}
			if !p.isLike(m) {
				t.Fatalf("seed %d, %d: behind %v: %v %v %v", seed, n, o, m.Queue(), m.Pairs(), m.Sems())
			}
		}
	}
}

// A long row of enqueues and dequeues: what was dequeued comes nowhere to light again.
func TestLongQueueP6_1(t *testing.T) {
	r := rand.New(rand.NewSource(11))
	m, p := New(), &plain{}
	for n := range 20000 {
		o := api.Op{Code: api.Dequeue}
		if r.Intn(100) < 30+40*(n/2500%2) {
			o = api.Op{Code: api.Enqueue, A: n % 1024}
		}
		if got, want := m.Apply(o), p.apply(o); got != want {
			t.Fatalf("%d: %v: %v, want %v", n, o, got, want)
		}
		if n%100 == 0 && !p.isLike(m) {
			t.Fatalf("%d: the queue is %v", n, m.Queue())
		}
	}
}

func TestRunP6_1(t *testing.T) {
	r := rand.New(rand.NewSource(5))
	m, p := New(), &plain{}
	for n := range 60 {
		var l []api.Op
		var want []api.Resp
		for range n % 9 {
			o := drawn(r, 3)
			l, want = append(l, o), append(want, p.apply(o))
		}
		was := slices.Clone(l)
		if got := m.Run(l...); !slices.Equal(got, want) || !p.isLike(m) {
			t.Fatalf("Run(%v): %v, want %v", l, got, want)
		}
		if !slices.Equal(l, was) {
			t.Fatalf("Run has made %v of %v", l, was)
		}
	}
	was := m.Clone()
	if got := m.Run(); len(got) != 0 || !Same(m, was) {
		t.Errorf("Run of nothing: %v", got)
	}
}

func TestNilP6_1(t *testing.T) {
	var m *Model
	for _, o := range append(wrongOps(), parsed(t, "none", "enqueue 1", "dequeue", "length", "get 1", "put 1 1", "delete 1", "swap 1 1 1", "size", "floor 1", "set 1 1", "acquire 1", "release 1", "value 1", "drop 1")...) {
		if r := m.Apply(o); r != (api.Resp{Kind: api.None}) {
			t.Errorf("%v: %v", o, r)
		}
		if l := m.Run(o); !slices.Equal(l, []api.Resp{{Kind: api.None}}) {
			t.Errorf("Run of %v: %v", o, l)
		}
	}
	if !isEmpty(m) || m.Clone() != nil || len(m.Run()) != 0 {
		t.Error("a nil model has something")
	}
	if !Same(nil, nil) || Same(nil, New()) || Same(New(), nil) || Same(nil, made(t, "set 1 1")) {
		t.Error("a nil model is the same as another than a nil one")
	}
}

func TestCloneP6_1(t *testing.T) {
	all := parsed(t, "enqueue 8", "dequeue", "put 1 9", "put 2 9", "delete 1", "swap 3 3 9", "set 1 9", "set 2 9", "acquire 1", "release 3", "drop 3")
	for _, o := range all {
		m := made(t, "enqueue 1", "enqueue 2", "enqueue 3", "dequeue", "put 1 1", "put 3 3", "set 1 1", "set 3 3")
		was, c := m.Clone(), m.Clone()
		if c == m || !Same(c, m) || !Same(m, c) || !slices.Equal(c.Queue(), m.Queue()) || !slices.Equal(c.Pairs(), m.Pairs()) || !slices.Equal(c.Sems(), m.Sems()) || c.Size() != m.Size() {
			t.Fatal("a clone isn't the same")
		}
		c.Apply(o)
		if Same(c, m) || !Same(m, was) {
			t.Errorf("%v on a clone has come to the other one", o)
		}
		if m.Apply(o); !Same(c, m) || Same(m, was) {
			t.Errorf("%v on both doesn't make the same of them", o)
		}
	}
	m := made(t, "enqueue 1", "enqueue 2", "enqueue 3")
	c := m.Clone()
	for n := range 300 {
		m.Apply(api.Op{Code: api.Enqueue, A: n})
		c.Apply(api.Op{Code: api.Enqueue, A: 1000})
		if m.Queue()[3+min(n, 252)] != min(n, 252) || c.Queue()[3] != 1000 {
			t.Fatal("the queues of a model and of its clone share memory")
		}
	}
}

func TestSameP6_1(t *testing.T) {
	l := []*Model{
		New(), made(t, "enqueue 1"), made(t, "enqueue 2"), made(t, "enqueue 1", "enqueue 2"), made(t, "enqueue 2", "enqueue 1"), made(t, "enqueue 1", "enqueue 1"), made(t, "enqueue 0"),
		made(t, "put 1 1"), made(t, "put 1 2"), made(t, "put 2 1"), made(t, "put 1 1", "put 2 1"), made(t, "put 1 0"), made(t, "put 0 0"),
		made(t, "set 1 1"), made(t, "set 1 2"), made(t, "set 2 1"), made(t, "set 1 1", "set 2 1"), made(t, "set 1 0"), made(t, "set 0 0"),
		made(t, "put 1 1", "set 1 1"), made(t, "put 1 1", "set 1 1", "enqueue 1"), made(t, "put 1 1", "enqueue 1"), nil,
	}
	for i, a := range l {
		for j, b := range l {
			if Same(a, b) != (i == j) {
				t.Errorf("Same of the models %d and %d: %v", i, j, Same(a, b))
			}
		}
	}
	for _, x := range [][2]*Model{
		{made(t, "enqueue 3", "enqueue 1", "dequeue"), made(t, "enqueue 1")},
		{made(t, "put 1 1", "put 2 2"), made(t, "put 2 2", "put 3 3", "put 1 5", "delete 3", "put 1 1")},
		{made(t, "set 1 1", "set 2 2"), made(t, "set 2 3", "set 1 0", "release 1", "acquire 2")},
		{made(t, "put 1 1", "delete 1", "set 1 1", "drop 1", "enqueue 1", "dequeue"), New()},
		{made(t, "put 1 1", "swap 1 1 7"), made(t, "put 1 7")},
	} {
		if !Same(x[0], x[1]) || !Same(x[1], x[0]) {
			t.Errorf("%v %v %v and %v %v %v aren't the same", x[0].Queue(), x[0].Pairs(), x[0].Sems(), x[1].Queue(), x[1].Pairs(), x[1].Sems())
		}
	}
}

// What is answered may be written to, its spare room too: no model sees it.
func TestAnswersAreApartP6_1(t *testing.T) {
	m := made(t, "enqueue 1", "enqueue 2", "enqueue 3", "dequeue", "put 1 1", "put 2 2", "put 3 3", "set 1 1", "set 2 2", "set 3 3")
	was := m.Clone()
	q, p, s := m.Queue(), m.Pairs(), m.Sems()
	q, p, s = q[:cap(q)], p[:cap(p)], s[:cap(s)]
	for i := range q {
		q[i] = 77
	}
	for i := range p {
		p[i] = api.Pair{Key: 77, Value: 77}
	}
	for i := range s {
		s[i] = api.Pair{Key: 78, Value: 78}
	}
	for _, p := range p {
		if p.Key != 77 {
			t.Error("Pairs and Sems share memory")
		}
	}
	if !Same(m, was) || !slices.Equal(m.Queue(), []int{2, 3}) {
		t.Error("an answer shares memory with its model")
	}
	m.Apply(api.Op{Code: api.Enqueue, A: 4})
	if !slices.Equal(m.Queue(), []int{2, 3, 4}) || q[0] != 77 {
		t.Error("the queue has changed")
	}
	l := m.Run(parsed(t, "length", "size")...)
	l[0], l[1] = api.Resp{}, api.Resp{}
	if got := texts(m.Run(parsed(t, "length", "size")...)); !slices.Equal(got, []string{"done 3", "done 3"}) {
		t.Errorf("Run: %q", got)
	}
}

// states for the promises that hold in all of them: at the edges, and drawn ones.
func states(t *testing.T) []*Model {
	full := New()
	for n := range 256 {
		full.Run(api.Op{Code: api.Enqueue, A: n}, api.Op{Code: api.MapPut, Key: n, A: n}, api.Op{Code: api.SemSet, Key: n, A: n * 4})
	}
	almost := full.Clone()
	almost.Run(parsed(t, "dequeue", "delete 0", "drop 0", "set 1 1023", "set 2 0")...)
	l := []*Model{New(), full, almost, made(t, "enqueue 1", "put 0 0", "put 1 1", "set 0 0", "set 1 1023"), made(t, "put 255 1023", "set 255 1022")}
	r := rand.New(rand.NewSource(6))
	for range 12 {
		m := New()
		for range r.Intn(60) {
			m.Apply(drawn(r, 6))
		}
		l = append(l, m)
	}
	return l
}

// allOps has right operations of all codes, with small keys and at the edges, and some that aren't right.
func allOps() []api.Op {
	var l []api.Op
	for code := range 15 {
		for _, key := range []int{0, 1, 2, 5, 255} {
			for _, a := range []int{0, 1, 1023} {
				for _, b := range []int{0, 1023} {
					if o := (api.Op{Code: code, Key: key, A: a, B: b}); rightOp(o) {
						l = append(l, o)
					}
				}
			}
		}
	}
	return append(l, api.Op{Code: 15}, api.Op{Code: api.Enqueue, A: 1024}, api.Op{Code: api.SemDrop, Key: 256})
}

func TestRightResponsesP6_2(t *testing.T) {
	for i, m := range states(t) {
		for _, o := range allOps() {
			c := m.Clone()
			r := c.Apply(o)
			if !ops.RightResp(r) || r.Kind == api.NoMemory {
				t.Errorf("the model %d, %v: %v", i, o, r)
			}
			if d := c.Size() - m.Size(); d < -1 || d > 1 {
				t.Errorf("the model %d, %v: the size goes from %d to %d", i, o, m.Size(), c.Size())
			}
		}
	}
}

func TestAskingAloneP6_2(t *testing.T) {
	asks := []int{api.OpNone, api.QueueLen, api.MapGet, api.MapLen, api.MapFloor, api.SemValue}
	for i, m := range states(t) {
		was := m.Clone()
		q, p, s := m.Queue(), m.Pairs(), m.Sems()
		for _, o := range allOps() {
			if !slices.Contains(asks, o.Code) {
				continue
			}
			first := m.Apply(o)
			if !Same(m, was) || !slices.Equal(m.Queue(), q) || !slices.Equal(m.Pairs(), p) || !slices.Equal(m.Sems(), s) {
				t.Fatalf("the model %d, %v has changed it", i, o)
			}
			if again := m.Apply(o); again != first {
				t.Errorf("the model %d, %v: %v, then %v", i, o, first, again)
			}
		}
	}
}

// ground of an operation: which part of the model it is upon.
func ground(code int) int {
	switch {
	case code >= 10 && code <= 14:
		return 3
	case code >= 4 && code <= 9:
		return 2
	case code >= 1 && code <= 3:
		return 1
	}
	return 0
}

// apart tells whether two operations don't touch one another, and whether what they answer doesn't hang on their order, either.
func apart(o, p api.Op) (models, answers bool) {
	if ground(o.Code) != ground(p.Code) || ground(o.Code) == 0 {
		return true, true
	}
	if ground(o.Code) == 1 {
		return false, false
	}
	tells := func(code int) bool { return code == api.MapLen || code == api.MapFloor }
	changes := func(code int) bool {
		return code == api.MapPut || code == api.MapDelete || code == api.MapSwap
	}
	if tells(o.Code) && changes(p.Code) || tells(p.Code) && changes(o.Code) {
		return true, false
	}
	unlike := tells(o.Code) || tells(p.Code) || o.Key != p.Key
	return unlike, unlike
}

func TestApartP6_3(t *testing.T) {
	count := 0
	l := allOps()
	for i, m := range states(t) {
		for j, o := range l {
			for _, p := range l[:j] {
				models, answers := apart(o, p)
				if !models || (j+i)%3 > 0 {
					continue
				}
				a, b := m.Clone(), m.Clone()
				x, y := a.Run(o, p), b.Run(p, o)
				if !Same(a, b) {
					t.Fatalf("the model %d: %v and %v make another one in the other order", i, o, p)
				}
				if answers && (x[0] != y[1] || x[1] != y[0]) {
					t.Fatalf("the model %d: %v and %v: %v, and %v in the other order", i, o, p, x, y)
				}
				count++
			}
		}
	}
	if count < 10000 {
		t.Errorf("only %d pairs were held against one another", count)
	}
}

// An operation upon one part leaves the others as they were, whatever it is.
func TestPartsP6_3(t *testing.T) {
	for i, m := range states(t) {
		for _, o := range allOps() {
			c := m.Clone()
			c.Apply(o)
			g := ground(o.Code)
			if g != 1 && !slices.Equal(c.Queue(), m.Queue()) || g != 2 && !slices.Equal(c.Pairs(), m.Pairs()) || g != 3 && !slices.Equal(c.Sems(), m.Sems()) {
				t.Fatalf("the model %d: %v has come to another part", i, o)
			}
			for _, x := range [][2][]api.Pair{{c.Pairs(), m.Pairs()}, {c.Sems(), m.Sems()}} {
				if g > 1 && !slices.Equal(without(x[0], o.Key), without(x[1], o.Key)) {
					t.Fatalf("the model %d: %v has come to another key", i, o)
				}
			}
		}
	}
}
