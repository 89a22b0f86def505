package draft

import (
	"math"
	"slices"
	"testing"

	"roundelay/api"
	"roundelay/model"
	"roundelay/ops"
)

var wrongCounts = []int{math.MinInt, math.MinInt32, -257, -256, -2, -1, 257, 258, 512, 1023, 65536, 1 << 32, math.MaxInt}

func parsed(t *testing.T, s string) api.Op {
	t.Helper()
	o, ok := ops.Parse(s)
	if !ok {
		t.Fatalf("%q is no operation's text", s)
	}
	return o
}

// answers holds what an operation is answered, when it needs nothing.
func answers(t *testing.T, d *Draft, s, want string) {
	t.Helper()
	if r, need := d.Apply(parsed(t, s)); ops.TextResp(r) != want || need != 0 {
		t.Fatalf("%s: %q and %d, want %q", s, ops.TextResp(r), need, want)
	}
}

// needs holds that an operation needs a node.
func needs(t *testing.T, d *Draft, s string, want uint64) {
	t.Helper()
	if r, need := d.Apply(parsed(t, s)); r != (api.Resp{}) || need != want {
		t.Fatalf("%s: %v and %d, want the need of %d", s, r, need, want)
	}
}

// lays holds the nodes that are to be laid, in order, and lays them with the handles from 1001 on.
func lays(t *testing.T, d *Draft, want ...api.Node) {
	t.Helper()
	for i, n := range want {
		if got, ok := d.Next(); got != n || !ok {
			t.Fatalf("the node %d is %v, %t, want %v", i, got, ok, n)
		}
		d.Laid(1001 + uint64(i))
	}
	if got, ok := d.Next(); got != (api.Node{}) || ok {
		t.Fatalf("behind %d nodes the next one is %v, %t", len(want), got, ok)
	}
}

func isVersion(t *testing.T, d *Draft, want api.Version) {
	t.Helper()
	if got := d.Version(); got != want {
		t.Fatalf("the version is %v, want %v", got, want)
	}
}

func drops(t *testing.T, d *Draft, want ...uint64) {
	t.Helper()
	if got := d.Dropped(); !slices.Equal(got, want) {
		t.Fatalf("dropped are %v, want %v", got, want)
	}
}

// changedNothing: there is nothing to be laid, and nothing was dropped.
func changedNothing(t *testing.T, d *Draft, v api.Version) {
	t.Helper()
	isVersion(t, d, v)
	drops(t, d)
	lays(t, d)
}

func TestRightP8_1(t *testing.T) {
	for _, v := range []api.Version{
		{}, {MapLen: 256}, {Len: 256}, {SemLen: 256}, {Front: 255}, {MapLen: 256, Len: 256, SemLen: 256, Front: 255}, {MapLen: 1, Len: 2, SemLen: 3, Front: 4},
		{Map: 1, Queue: 1 << 63, Sem: math.MaxUint64}, {Map: 65537, MapLen: 7},
	} {
		d, e := New(v)
		if !Right(v) || d == nil || e != api.OK {
			t.Fatalf("%v: %t, %v, %d", v, Right(v), d, e)
		}
		changedNothing(t, d, v)
	}
}

func TestWrongVersionsP8_1(t *testing.T) {
	isWrong := func(v api.Version) {
		t.Helper()
		if d, e := New(v); Right(v) || d != nil || e != api.ErrArg {
			t.Errorf("%v: %t, %v, %d", v, Right(v), d, e)
		}
	}
	for _, n := range wrongCounts {
		isWrong(api.Version{MapLen: n})
		isWrong(api.Version{Len: n})
		isWrong(api.Version{SemLen: n})
		isWrong(api.Version{Front: n})
		isWrong(api.Version{Map: 65537, MapLen: 256, Len: n, SemLen: 256, Front: 255})
	}
	isWrong(api.Version{Front: 256})
	isWrong(api.Version{Map: 65537, MapLen: 1, Queue: 131074, Front: 256, Len: 1})
}

func TestExampleP8_2(t *testing.T) {
	d := drafted(t, api.Version{})
	answers(t, d, "enqueue 5", "done 1")
	isVersion(t, d, api.Version{Len: 1})
	lays(t, d, api.Node{6}, api.Node{1001}, api.Node{1002}, api.Node{1003})
	isVersion(t, d, api.Version{Queue: 1004, Len: 1})
	drops(t, d)
}

// handMade is a version of the map 27:1000, 26:7, of the queue 8, 9 from 255 on, and of the semaphores 3:1; its nodes have the handles 11 to 14, 21 to 27 and 31 to 34.
func handMade(t *testing.T) (*Draft, api.Version) {
	t.Helper()
	v := api.Version{Map: 11, MapLen: 2, Queue: 21, Front: 255, Len: 2, Sem: 31, SemLen: 1}
	return drafted(t, v), v
}

var handNodes = [...]struct {
	h uint64
	n api.Node
}{
	{11, api.Node{12, 0, 0, 0}}, {12, api.Node{0, 13, 0, 0}}, {13, api.Node{0, 0, 14, 0}}, {14, api.Node{0, 0, 8, 1001}},
	{21, api.Node{25, 0, 0, 22}}, {22, api.Node{0, 0, 0, 23}}, {23, api.Node{0, 0, 0, 24}}, {24, api.Node{0, 0, 0, 9}},
	{25, api.Node{26, 0, 0, 0}}, {26, api.Node{27, 0, 0, 0}}, {27, api.Node{10, 0, 0, 0}},
	{31, api.Node{32, 0, 0, 0}}, {32, api.Node{33, 0, 0, 0}}, {33, api.Node{34, 0, 0, 0}}, {34, api.Node{0, 0, 0, 2}},
}

func knowAll(d *Draft) {
	for _, x := range handNodes {
		d.Know(x.h, x.n)
	}
}

// told is what a handle's node was made of.
func told(h uint64) api.Node {
	for _, x := range handNodes {
		if x.h == h {
			return x.n
		}
	}
	return api.Node{}
}

// Each row: an operation, the nodes that it needs, one behind the other, and its answer. Each is done upon a draft of its own.
func TestNeedsP8_1(t *testing.T) {
	for _, x := range []struct {
		o    string
		need []uint64
		want string
	}{
		{"get 27", []uint64{11, 12, 13, 14}, "done 1000"},
		{"get 26", []uint64{11, 12, 13, 14}, "done 7"},
		{"get 24", []uint64{11, 12, 13, 14}, "none"},
		{"get 23", []uint64{11, 12, 13}, "none"},
		{"get 0", []uint64{11, 12}, "none"},
		{"get 255", []uint64{11}, "none"},
		{"put 27 3", []uint64{11, 12, 13, 14}, "done 1000"},
		{"put 0 3", []uint64{11, 12}, "none"},
		{"delete 64", []uint64{11}, "none"},
		{"delete 27", []uint64{11, 12, 13, 14}, "done 1000"},
		{"swap 27 1000 1", []uint64{11, 12, 13, 14}, "done 1000"},
		{"swap 27 1001 1", []uint64{11, 12, 13, 14}, "unlike 1000"},
		{"swap 28 0 0", []uint64{11, 12, 13}, "none"},
		{"floor 255", []uint64{11, 12, 13, 14}, "done 28648"},
		{"floor 26", []uint64{11, 12, 13, 14}, "done 26631"},
		{"floor 25", []uint64{11, 12, 13, 14}, "none"},
		{"floor 23", []uint64{11, 12, 13}, "none"},
		{"floor 15", []uint64{11, 12}, "none"},
		{"floor 0", []uint64{11, 12}, "none"},
		{"dequeue", []uint64{21, 22, 23, 24}, "done 8"},
		{"enqueue 5", []uint64{21, 25, 26, 27}, "done 3"},
		{"set 3 0", []uint64{31, 32, 33, 34}, "done 1"},
		{"set 4 0", []uint64{31, 32, 33}, "none"},
		{"acquire 3", []uint64{31, 32, 33, 34}, "done 0"},
		{"acquire 0", []uint64{31, 32, 33, 34}, "none"},
		{"release 3", []uint64{31, 32, 33, 34}, "done 2"},
		{"release 70", []uint64{31}, "none"},
		{"value 3", []uint64{31, 32, 33, 34}, "done 1"},
		{"value 16", []uint64{31, 32}, "none"},
		{"drop 3", []uint64{31, 32, 33, 34}, "done 1"},
		{"drop 2", []uint64{31, 32, 33, 34}, "none"},
		{"length", nil, "done 2"},
		{"size", nil, "done 2"},
		{"none", nil, "none"},
	} {
		d, v := handMade(t)
		for _, h := range x.need {
			needs(t, d, x.o, h)
			needs(t, d, x.o, h)
			changedNothing(t, d, v)
			d.Know(h, told(h))
		}
		answers(t, d, x.o, x.want)
	}
}

// Which nodes are needed hangs on nothing but what is known: not on the order in which they were told, nor on other ones.
func TestKnownAheadP8_1(t *testing.T) {
	d, _ := handMade(t)
	d.Know(14, told(14))
	d.Know(12, told(12))
	d.Know(999, api.Node{1, 2, 3, 4})
	needs(t, d, "get 27", 11)
	d.Know(11, told(11))
	needs(t, d, "get 27", 13)
	d.Know(13, told(13))
	answers(t, d, "get 27", "done 1000")
	needs(t, d, "value 3", 31)
	needs(t, d, "dequeue", 21)
}

func TestKnowP8_1(t *testing.T) {
	d, v := handMade(t)
	knowAll(d)
	for _, x := range handNodes {
		d.Know(x.h, api.Node{999, 999, 999, 999})
		d.Know(x.h, api.Node{})
	}
	changedNothing(t, d, v)
	answers(t, d, "get 27", "done 1000")
	answers(t, d, "value 3", "done 1")
	answers(t, d, "length", "done 2")

	e := drafted(t, api.Version{})
	e.Know(0, api.Node{1, 1, 1, 1})
	answers(t, e, "get 0", "none")
	answers(t, e, "floor 255", "none")
	answers(t, e, "put 0 4", "none")
	lays(t, e, api.Node{5}, api.Node{1001}, api.Node{1002}, api.Node{1003})
}

// Whatever a topmost node's word is, but 0, it is one's handle.
func TestAnyHandleP8_1(t *testing.T) {
	for _, h := range []uint64{1, 2, 1023, 1024, 65535, 65536, 65537, 1 << 44, 1 << 63, math.MaxUint64} {
		d := drafted(t, api.Version{Map: h, MapLen: 1, Queue: h, Len: 1, Sem: h, SemLen: 1})
		for _, o := range []string{"get 0", "put 200 1", "floor 0", "dequeue", "enqueue 4", "set 3 1", "value 255"} {
			needs(t, d, o, h)
		}
		d.Know(h, api.Node{0, 0, 0, h - 1})
		answers(t, d, "get 0", "none")
		if h > 1 {
			needs(t, d, "get 200", h-1)
		}
	}
}

// A node of noughts may be told, too: it is known then, and no key is found by it.
func TestNoughtsKnownP8_1(t *testing.T) {
	for h, want := range map[uint64][]uint64{11: {11}, 12: {11, 12}, 13: {11, 12, 13}, 14: {11, 12, 13, 14}} {
		d, v := handMade(t)
		for _, x := range want {
			needs(t, d, "get 27", x)
			if x == h {
				d.Know(x, api.Node{})
			}
			d.Know(x, told(x))
		}
		answers(t, d, "get 27", "none")
		answers(t, d, "delete 27", "none")
		answers(t, d, "floor 200", "none")
		changedNothing(t, d, v)
		answers(t, d, "put 27 6", "none")
		drops(t, d, want...)
	}
}

// What isn't right, or none, does nothing, whatever is unknown.
func TestWrongOperationsP8_1(t *testing.T) {
	d, v := handMade(t)
	wrong := []api.Op{
		{}, {Code: -1}, {Code: 15}, {Code: 99}, {Code: math.MinInt}, {Code: math.MaxInt}, {Key: 1}, {A: 1}, {B: 1},
		{Code: api.Enqueue, A: -1}, {Code: api.Enqueue, A: 1024}, {Code: api.Enqueue, Key: 1, A: 5}, {Code: api.Enqueue, A: 5, B: 1},
		{Code: api.Dequeue, Key: 1}, {Code: api.Dequeue, A: 1}, {Code: api.QueueLen, B: 1}, {Code: api.MapLen, Key: 1},
		{Code: api.MapGet, Key: -1}, {Code: api.MapGet, Key: 256}, {Code: api.MapGet, Key: 27, A: 1}, {Code: api.MapPut, Key: 27, A: 1024}, {Code: api.MapPut, Key: 27, A: 1, B: 1},
		{Code: api.MapDelete, Key: 256}, {Code: api.MapDelete, Key: 27, B: 2}, {Code: api.MapSwap, Key: 27, A: 1000, B: 1024}, {Code: api.MapSwap, Key: 27, A: -1}, {Code: api.MapFloor, Key: 256}, {Code: api.MapFloor, Key: -1},
		{Code: api.SemSet, Key: 3, A: 1024}, {Code: api.SemSet, Key: -3}, {Code: api.SemAcquire, Key: 3, A: 1}, {Code: api.SemRelease, Key: 256}, {Code: api.SemValue, Key: 3, B: 1}, {Code: api.SemDrop, Key: -1},
	}
	for range 2 {
		for _, o := range wrong {
			if r, need := d.Apply(o); r != (api.Resp{Kind: api.None}) || need != 0 {
				t.Errorf("%v: %v, %d", o, r, need)
			}
			changedNothing(t, d, v)
		}
		knowAll(d)
	}
}

// A full queue, and an empty one, need no node.
func TestFullAndEmptyP8_1(t *testing.T) {
	for _, front := range []int{0, 1, 128, 255} {
		v := api.Version{Queue: 77, Front: front, Len: 256}
		d := drafted(t, v)
		answers(t, d, "enqueue 5", "full")
		answers(t, d, "length", "done 256")
		needs(t, d, "dequeue", 77)
		changedNothing(t, d, v)
		v = api.Version{Queue: 77, Front: front}
		d = drafted(t, v)
		answers(t, d, "dequeue", "none")
		answers(t, d, "length", "done 0")
		needs(t, d, "enqueue 5", 77)
		changedNothing(t, d, v)
	}
}

func TestSizesP8_1(t *testing.T) {
	d := drafted(t, api.Version{Map: 5, MapLen: 200, Queue: 6, Len: 100, Sem: 7, SemLen: 50})
	answers(t, d, "size", "done 200")
	answers(t, d, "length", "done 100")
}

// One operation behind the other, each answered as layer 6's table tells.
func TestAnswersP8_1(t *testing.T) {
	d := drafted(t, api.Version{})
	for _, x := range [][2]string{
		{"dequeue", "none"}, {"enqueue 7", "done 1"}, {"enqueue 0", "done 2"}, {"enqueue 1023", "done 3"}, {"length", "done 3"}, {"dequeue", "done 7"}, {"dequeue", "done 0"}, {"dequeue", "done 1023"}, {"dequeue", "none"}, {"length", "done 0"},
		{"get 4", "none"}, {"put 4 1", "none"}, {"put 4 2", "done 1"}, {"get 4", "done 2"}, {"swap 4 1 5", "unlike 2"}, {"get 4", "done 2"}, {"swap 4 2 5", "done 2"}, {"get 4", "done 5"}, {"swap 5 0 0", "none"}, {"size", "done 1"},
		{"put 9 1023", "none"}, {"put 0 0", "none"}, {"size", "done 3"}, {"floor 3", "done 0"}, {"floor 4", "done 4101"}, {"floor 8", "done 4101"}, {"floor 9", "done 10239"}, {"floor 255", "done 10239"},
		{"delete 0", "done 0"}, {"floor 3", "none"}, {"delete 4", "done 5"}, {"delete 4", "none"}, {"floor 8", "none"}, {"size", "done 1"}, {"swap 9 0 3", "unlike 1023"}, {"swap 9 1023 0", "done 1023"}, {"get 9", "done 0"},
		{"acquire 1", "none"}, {"release 1", "none"}, {"value 1", "none"}, {"drop 1", "none"}, {"set 1 1", "none"}, {"acquire 1", "done 0"}, {"acquire 1", "busy"}, {"value 1", "done 0"}, {"release 1", "done 1"}, {"value 1", "done 1"},
		{"set 1 1023", "done 1"}, {"release 1", "full"}, {"value 1", "done 1023"}, {"acquire 1", "done 1022"}, {"release 1", "done 1023"}, {"set 1 0", "done 1023"}, {"acquire 1", "busy"}, {"drop 1", "done 0"}, {"drop 1", "none"}, {"value 1", "none"},
		{"get 1", "none"}, {"put 1 8", "none"}, {"value 1", "none"}, {"size", "done 2"}, {"none", "none"},
	} {
		answers(t, d, x[0], x[1])
	}
	isVersion(t, d, api.Version{MapLen: 2, Front: 3})
	drops(t, d)
}

// What a version counts is what comes of the operations that were answered.
func TestCountsP8_2(t *testing.T) {
	d, v := handMade(t)
	knowAll(d)
	step := func(o, want string, then api.Version) {
		t.Helper()
		answers(t, d, o, want)
		isVersion(t, d, then)
	}
	v.Map = 0
	v.MapLen = 3
	step("put 28 0", "none", v)
	step("put 28 1", "done 0", v)
	v.MapLen = 2
	step("delete 27", "done 1000", v)
	step("delete 27", "none", v)
	step("swap 26 7 9", "done 7", v)
	v.Queue, v.Front, v.Len = 0, 0, 1
	step("dequeue", "done 8", v)
	v.Front, v.Len = 1, 0
	step("dequeue", "done 9", v)
	v.Len = 1
	step("enqueue 3", "done 1", v)
	v.Sem = 0
	step("acquire 3", "done 0", v)
	step("acquire 3", "busy", v)
	v.SemLen = 2
	step("set 255 1023", "none", v)
	step("set 255 1022", "done 1023", v)
	v.SemLen = 1
	step("drop 3", "done 0", v)
	step("drop 3", "none", v)
}

// What would write the word that stands there writes nothing.
func TestSameWordP8_2(t *testing.T) {
	d, v := handMade(t)
	knowAll(d)
	for o, want := range map[string]string{
		"put 27 1000": "done 1000", "put 26 7": "done 7", "swap 27 1000 1000": "done 1000", "swap 27 1 2": "unlike 1000", "swap 28 1 2": "none", "delete 28": "none", "delete 255": "none", "get 27": "done 1000", "floor 27": "done 28648", "size": "done 2",
		"set 3 1": "done 1", "value 3": "done 1", "drop 4": "none", "acquire 4": "none", "release 4": "none", "length": "done 2",
	} {
		answers(t, d, o, want)
		changedNothing(t, d, v)
	}
	answers(t, d, "acquire 3", "done 0")
	drops(t, d, 31, 32, 33, 34)
	answers(t, d, "acquire 3", "busy")
	answers(t, d, "set 3 0", "done 0")
	answers(t, d, "set 3 1023", "done 0")
	answers(t, d, "release 3", "full")
	drops(t, d, 31, 32, 33, 34)
	lays(t, d, api.Node{0, 0, 0, 1024}, api.Node{1001}, api.Node{1002}, api.Node{1003})
	isVersion(t, d, api.Version{Map: 11, MapLen: 2, Queue: 21, Front: 255, Len: 2, Sem: 1004, SemLen: 1})
}

// A node is replaced once: what is written behind that goes into the new one.
func TestReplacedP8_2(t *testing.T) {
	d, _ := handMade(t)
	knowAll(d)
	answers(t, d, "put 27 4", "done 1000")
	drops(t, d, 11, 12, 13, 14)
	answers(t, d, "put 26 5", "done 7")
	answers(t, d, "put 16 6", "none")
	drops(t, d, 11, 12, 13, 14)
	answers(t, d, "enqueue 2", "done 3")
	answers(t, d, "dequeue", "done 8")
	drops(t, d, 11, 12, 13, 14, 21, 25, 26, 27, 22, 23, 24)
	lays(t, d,
		api.Node{0, 0, 6, 5}, api.Node{7}, api.Node{10, 3},
		api.Node{1002, 0, 1001, 0}, api.Node{1003},
		api.Node{0, 1004, 0, 0}, api.Node{1005},
		api.Node{1006}, api.Node{1007})
	isVersion(t, d, api.Version{Map: 1008, MapLen: 3, Queue: 1009, Front: 0, Len: 2, Sem: 31, SemLen: 1})
}

// The last key of a node goes with it, and with those above it that it leaves empty.
func TestEmptiedP8_2(t *testing.T) {
	d, _ := handMade(t)
	knowAll(d)
	answers(t, d, "delete 27", "done 1000")
	answers(t, d, "dequeue", "done 8")
	answers(t, d, "drop 3", "done 1")
	drops(t, d, 11, 12, 13, 14, 21, 22, 23, 24, 31, 32, 33, 34)
	lays(t, d, api.Node{0, 0, 8, 0}, api.Node{0, 0, 1001, 0}, api.Node{0, 1002, 0, 0}, api.Node{1003}, api.Node{25})
	isVersion(t, d, api.Version{Map: 1004, MapLen: 1, Queue: 1005, Front: 0, Len: 1})

	d, _ = handMade(t)
	knowAll(d)
	for _, x := range [][2]string{{"delete 27", "done 1000"}, {"delete 26", "done 7"}, {"dequeue", "done 8"}, {"dequeue", "done 9"}, {"drop 3", "done 1"}} {
		answers(t, d, x[0], x[1])
	}
	drops(t, d, 11, 12, 13, 14, 21, 22, 23, 24, 25, 26, 27, 31, 32, 33, 34)
	lays(t, d)
	isVersion(t, d, api.Version{Front: 1})
}

// What was made, and is none any more, is made anew behind those that were made meanwhile.
func TestMadeAgainP8_2(t *testing.T) {
	d := drafted(t, api.Version{})
	answers(t, d, "put 0 1", "none")
	answers(t, d, "put 255 2", "none")
	answers(t, d, "set 64 3", "none")
	answers(t, d, "delete 0", "done 1")
	answers(t, d, "put 1 4", "none")
	drops(t, d)
	lays(t, d,
		api.Node{0, 0, 0, 3}, api.Node{4}, api.Node{0, 5, 0, 0},
		api.Node{0, 0, 0, 1001}, api.Node{1002}, api.Node{1003},
		api.Node{0, 0, 0, 1004}, api.Node{1005}, api.Node{1006},
		api.Node{1009, 0, 0, 1007}, api.Node{0, 1008, 0, 0})
	isVersion(t, d, api.Version{Map: 1010, MapLen: 2, Sem: 1011, SemLen: 1})
}

func TestUndoneP8_2(t *testing.T) {
	for key := range 256 {
		d := drafted(t, api.Version{})
		for _, o := range []api.Op{{Code: api.MapPut, Key: key, A: 1}, {Code: api.SemSet, Key: key, A: 1}, {Code: api.MapDelete, Key: key}, {Code: api.SemDrop, Key: key}} {
			if _, need := d.Apply(o); need != 0 {
				t.Fatalf("%v: the need of %d", o, need)
			}
		}
		changedNothing(t, d, api.Version{})
	}
}

// The values' keys go on behind 255 with 0, the queue being filled, and emptied.
func TestRoundP8_2(t *testing.T) {
	for _, front := range []int{0, 1, 100, 253, 254, 255} {
		b := newBench(t, arenaOf(t, 4000), api.Version{Front: front}, model.New())
		for i := range 310 {
			b.do(api.Op{Code: api.Enqueue, A: i})
			if i%7 == 0 {
				b.do(api.Op{Code: api.Dequeue})
			}
		}
		if n := b.draft.Version().Len; n != 256 {
			t.Fatalf("from %d on: %d values", front, n)
		}
		for range 257 {
			b.do(api.Op{Code: api.Dequeue})
		}
		b.lay()
	}
}

func TestLaidP8_2(t *testing.T) {
	d := drafted(t, api.Version{})
	d.Laid(5)
	changedNothing(t, d, api.Version{})
	answers(t, d, "put 0 1", "none")
	n, _ := d.Next()
	if m, ok := d.Next(); m != n || !ok {
		t.Errorf("asked again, the next node is %v", m)
	}
	lays(t, d, api.Node{2}, api.Node{1001}, api.Node{1002}, api.Node{1003})
	d.Laid(6)
	d.Laid(0)
	isVersion(t, d, api.Version{Map: 1004, MapLen: 1})
	lays(t, d)
}

// A node counts as laid with whatever handle was told.
func TestLaidAnyP8_2(t *testing.T) {
	for _, h := range []uint64{0, 1, 65535, 65536, 1 << 44, math.MaxUint64} {
		d := drafted(t, api.Version{})
		answers(t, d, "set 255 9", "none")
		for _, want := range []api.Node{{0, 0, 0, 10}, {0, 0, 0, h}, {0, 0, 0, h}, {0, 0, 0, h}} {
			if n, ok := d.Next(); n != want || !ok {
				t.Fatalf("laid with %d: %v, %t, want %v", h, n, ok, want)
			}
			d.Laid(h)
		}
		lays(t, d)
		isVersion(t, d, api.Version{Sem: h, SemLen: 1})
	}
}

// Where a version has one node at two places, it is replaced at each, and dropped at each.
func TestSharedP8_2(t *testing.T) {
	v := api.Version{Map: 11, MapLen: 4, Sem: 11, SemLen: 4}
	d := drafted(t, v)
	d.Know(11, api.Node{12, 12, 0, 0})
	d.Know(12, api.Node{13, 0, 0, 0})
	d.Know(13, api.Node{14, 0, 0, 14})
	d.Know(14, api.Node{3, 0, 0, 0})
	answers(t, d, "put 0 5", "done 2")
	answers(t, d, "get 64", "done 2")
	answers(t, d, "get 12", "done 2")
	answers(t, d, "value 0", "done 2")
	drops(t, d, 11, 12, 13, 14)
	answers(t, d, "release 64", "done 3")
	answers(t, d, "delete 12", "done 2")
	drops(t, d, 11, 12, 13, 14, 11, 12, 13, 14, 14)
	lays(t, d, api.Node{6}, api.Node{4}, api.Node{1001}, api.Node{1002, 0, 0, 14}, api.Node{1003}, api.Node{1004}, api.Node{1005, 12, 0, 0}, api.Node{12, 1006, 0, 0})
	isVersion(t, d, api.Version{Map: 1007, MapLen: 3, Sem: 1008, SemLen: 4})
}

// What is answered is one's own.
func TestDroppedOwnP8_2(t *testing.T) {
	d, _ := handMade(t)
	knowAll(d)
	answers(t, d, "delete 27", "done 1000")
	l := d.Dropped()
	clear(l[:cap(l)])
	drops(t, d, 11, 12, 13, 14)
	l = append(d.Dropped(), 1, 2, 3)
	answers(t, d, "drop 3", "done 1")
	drops(t, d, 11, 12, 13, 14, 31, 32, 33, 34)
	if !slices.Equal(l[4:], []uint64{1, 2, 3}) {
		t.Errorf("what was answered became %v", l)
	}
}

func TestApartP8_1(t *testing.T) {
	x, v := handMade(t)
	y, _ := handMade(t)
	knowAll(x)
	answers(t, x, "put 27 4", "done 1000")
	needs(t, y, "get 27", 11)
	changedNothing(t, y, v)
	knowAll(y)
	answers(t, y, "get 27", "done 1000")
	answers(t, x, "get 27", "done 4")
}

func TestNil(t *testing.T) {
	var d *Draft
	d.Know(1, api.Node{1})
	d.Laid(1)
	for _, o := range []api.Op{{}, {Code: api.Enqueue, A: 5}, {Code: api.MapGet}, {Code: api.QueueLen}, {Code: 99}} {
		if r, need := d.Apply(o); r != (api.Resp{Kind: api.None}) || need != 0 {
			t.Errorf("%v: %v, %d", o, r, need)
		}
	}
	if n, ok := d.Next(); n != (api.Node{}) || ok {
		t.Errorf("Next: %v, %t", n, ok)
	}
	if l := d.Dropped(); len(l) != 0 {
		t.Errorf("Dropped: %v", l)
	}
	if v := d.Version(); v != (api.Version{}) {
		t.Errorf("Version: %v", v)
	}
}
