package ops

import (
	"math"
	"math/rand"
	"strconv"
	"strings"
	"testing"

	"roundelay/api"
)

// row is a row of the document's table, with its code.
type row struct {
	code      int
	name      string
	key, a, b bool
}

// table is the document's, written once more and with plain numbers, so that the program's own isn't held against itself.
func table() []row {
	return []row{
		{0, "none", false, false, false},
		{1, "enqueue", false, true, false},
		{2, "dequeue", false, false, false},
		{3, "length", false, false, false},
		{4, "get", true, false, false},
		{5, "put", true, true, false},
		{6, "delete", true, false, false},
		{7, "swap", true, true, true},
		{8, "size", false, false, false},
		{9, "floor", true, false, false},
		{10, "set", true, true, false},
		{11, "acquire", true, false, false},
		{12, "release", true, false, false},
		{13, "value", true, false, false},
		{14, "drop", true, false, false},
	}
}

const (
	codeUnit  = 268435456
	keyUnit   = 1048576
	aUnit     = 1024
	wordUnit  = 4294967296
	mostValue = 268435455
)

// fitsOp tells by the table alone whether an operation is right.
func fitsOp(o api.Op) bool {
	if o.Code < 0 || o.Code > 14 {
		return false
	}
	x := table()[o.Code]
	part := func(n int, used bool, most int) bool { return n == 0 || used && n > 0 && n <= most }
	return part(o.Key, x.key, 255) && part(o.A, x.a, 1023) && part(o.B, x.b, 1023)
}

func fitsResp(r api.Resp) bool {
	switch r.Kind {
	case 0, 4:
		return r.Value >= 0 && r.Value <= mostValue
	case 1, 2, 3, 5:
		return r.Value == 0
	}
	return false
}

func numberOf(o api.Op) uint64 {
	return uint64(o.Code)*codeUnit + uint64(o.Key)*keyUnit + uint64(o.A)*aUnit + uint64(o.B)
}

func opOf(n uint64) api.Op {
	return api.Op{Code: int(n / codeUnit), Key: int(n / keyUnit % 256), A: int(n / aUnit % 1024), B: int(n % 1024)}
}

func wordsOf(o api.Op) string {
	x := table()[o.Code]
	l := []string{x.name}
	if x.key {
		l = append(l, strconv.Itoa(o.Key))
	}
	if x.a {
		l = append(l, strconv.Itoa(o.A))
	}
	if x.b {
		l = append(l, strconv.Itoa(o.B))
	}
	return strings.Join(l, " ")
}

func wordsOfResp(r api.Resp) string {
	s := []string{"done", "none", "full", "busy", "unlike", "nomemory"}[r.Kind]
	if r.Kind == 0 || r.Kind == 4 {
		s += " " + strconv.Itoa(r.Value)
	}
	return s
}

func codes() []int {
	l := []int{-1, -2, -15, 15, 16, 17, 30, 256, 1 << 32, 1<<32 + 1, 1<<36 + 5, 1 << 60, math.MaxInt, math.MinInt, math.MinInt + 1}
	for n := range 15 {
		l = append(l, n)
	}
	return l
}

// numbers for a part: those at and around every limit, and those that would overflow, or turn right, when shifted or cut off.
func numbers() []int {
	return []int{0, 1, 2, 9, 10, 99, 100, 254, 255, 256, 257, 1022, 1023, 1024, 1025, 1 << 20, 1 << 28, 1 << 32, 1<<32 + 1, 1 << 62, math.MaxInt, -1, -2, -1024, math.MinInt}
}

// operations of all codes with all numbers at the edges, right and wrong.
func edgeOps() []api.Op {
	var l []api.Op
	for _, code := range codes() {
		for _, key := range numbers() {
			for _, a := range numbers() {
				for _, b := range numbers() {
					l = append(l, api.Op{Code: code, Key: key, A: a, B: b})
				}
			}
		}
	}
	return l
}

// rightOps has those of the edges that are right, and some of the middle; the seed is fixed, so that each run sees the same.
func rightOps() []api.Op {
	var l []api.Op
	for _, o := range edgeOps() {
		if fitsOp(o) {
			l = append(l, o)
		}
	}
	r := rand.New(rand.NewSource(1))
	for range 8000 {
		x := table()[r.Intn(15)]
		o := api.Op{Code: x.code}
		if x.key {
			o.Key = r.Intn(256)
		}
		if x.a {
			o.A = r.Intn(1024)
		}
		if x.b {
			o.B = r.Intn(1024)
		}
		l = append(l, o)
	}
	return l
}

func values() []int {
	return append(numbers(), 12345, 261119, 262144, mostValue-1, mostValue, mostValue+1, mostValue+2, 2*mostValue, 1<<29, 5<<28, 1<<31)
}

func edgeResps() []api.Resp {
	var l []api.Resp
	for _, kind := range append(codes(), 18, 100) {
		for _, value := range values() {
			l = append(l, api.Resp{Kind: kind, Value: value})
		}
	}
	return l
}

func rightResps() []api.Resp {
	var l []api.Resp
	for _, r := range edgeResps() {
		if fitsResp(r) {
			l = append(l, r)
		}
	}
	random := rand.New(rand.NewSource(2))
	for range 2000 {
		l = append(l, api.Resp{Kind: 4 * random.Intn(2), Value: random.Intn(mostValue+1) >> random.Intn(28)})
	}
	return l
}

func TestNumbersOfApi(t *testing.T) {
	l := []int{api.OpNone, api.Enqueue, api.Dequeue, api.QueueLen, api.MapGet, api.MapPut, api.MapDelete, api.MapSwap, api.MapLen, api.MapFloor, api.SemSet, api.SemAcquire, api.SemRelease, api.SemValue, api.SemDrop}
	for n, code := range l {
		if n != code {
			t.Errorf("the code %d is %d", n, code)
		}
	}
	for n, kind := range []int{api.Done, api.None, api.Full, api.Busy, api.Unlike, api.NoMemory} {
		if n != kind {
			t.Errorf("the kind %d is %d", n, kind)
		}
	}
	if api.MostKey != 255 || api.MostValue != 1023 {
		t.Error("the limits of api aren't those of the document")
	}
}

func TestRightP5_1(t *testing.T) {
	for _, x := range []struct {
		o    api.Op
		want bool
	}{
		{api.Op{}, true},
		{api.Op{Code: api.OpNone, Key: 1}, false},
		{api.Op{Code: api.OpNone, A: 1}, false},
		{api.Op{Code: api.OpNone, B: 1}, false},
		{api.Op{Code: api.Enqueue}, true},
		{api.Op{Code: api.Enqueue, A: 1023}, true},
		{api.Op{Code: api.Enqueue, A: 1024}, false},
		{api.Op{Code: api.Enqueue, A: -1}, false},
		{api.Op{Code: api.Enqueue, Key: 1, A: 1}, false},
		{api.Op{Code: api.Enqueue, A: 1, B: 1}, false},
		{api.Op{Code: api.Dequeue}, true},
		{api.Op{Code: api.Dequeue, A: 1}, false},
		{api.Op{Code: api.QueueLen, Key: 1}, false},
		{api.Op{Code: api.MapGet, Key: 255}, true},
		{api.Op{Code: api.MapGet, Key: 256}, false},
		{api.Op{Code: api.MapGet, Key: -1}, false},
		{api.Op{Code: api.MapGet, Key: 5, A: 1}, false},
		{api.Op{Code: api.MapPut, Key: 255, A: 1023}, true},
		{api.Op{Code: api.MapPut, Key: 5, A: 5, B: 1}, false},
		{api.Op{Code: api.MapSwap, Key: 255, A: 1023, B: 1023}, true},
		{api.Op{Code: api.MapSwap, B: 1024}, false},
		{api.Op{Code: api.MapSwap, B: -1}, false},
		{api.Op{Code: api.MapLen}, true},
		{api.Op{Code: api.SemDrop, Key: 255}, true},
		{api.Op{Code: 15}, false},
		{api.Op{Code: -1}, false},
		{api.Op{Code: math.MaxInt}, false},
		{api.Op{Code: math.MinInt}, false},
	} {
		if Right(x.o) != x.want {
			t.Errorf("Right(%v): %v", x.o, !x.want)
		}
	}
	for _, o := range edgeOps() {
		if Right(o) != fitsOp(o) {
			t.Fatalf("Right(%v): %v", o, !fitsOp(o))
		}
	}
}

func TestRightRespP5_1(t *testing.T) {
	for _, x := range []struct {
		r    api.Resp
		want bool
	}{
		{api.Resp{}, true},
		{api.Resp{Kind: api.Done, Value: mostValue}, true},
		{api.Resp{Kind: api.Done, Value: mostValue + 1}, false},
		{api.Resp{Kind: api.Done, Value: -1}, false},
		{api.Resp{Kind: api.None}, true},
		{api.Resp{Kind: api.None, Value: 1}, false},
		{api.Resp{Kind: api.Full, Value: 1}, false},
		{api.Resp{Kind: api.Busy, Value: -1}, false},
		{api.Resp{Kind: api.Unlike, Value: 1023}, true},
		{api.Resp{Kind: api.Unlike, Value: mostValue + 1}, false},
		{api.Resp{Kind: api.NoMemory}, true},
		{api.Resp{Kind: api.NoMemory, Value: 1}, false},
		{api.Resp{Kind: 6}, false},
		{api.Resp{Kind: -1}, false},
		{api.Resp{Kind: math.MinInt, Value: math.MinInt}, false},
	} {
		if RightResp(x.r) != x.want {
			t.Errorf("RightResp(%v): %v", x.r, !x.want)
		}
	}
	for _, r := range edgeResps() {
		if RightResp(r) != fitsResp(r) {
			t.Fatalf("RightResp(%v): %v", r, !fitsResp(r))
		}
	}
}

func TestPackP5_1(t *testing.T) {
	for _, x := range []struct {
		o    api.Op
		want uint64
	}{
		{api.Op{}, 0},
		{api.Op{Code: api.MapSwap, Key: 3, A: 4, B: 5}, 1882198021},
		{api.Op{Code: api.MapSwap, Key: 255, A: 1023, B: 1023}, 2147483647},
		{api.Op{Code: api.Enqueue}, 268435456},
		{api.Op{Code: api.Enqueue, A: 5}, 268440576},
		{api.Op{Code: api.MapGet, Key: 1}, 1074790400},
		{api.Op{Code: api.SemDrop, Key: 255}, 4025483264},
	} {
		if n, ok := Pack(x.o); n != x.want || !ok {
			t.Errorf("Pack(%v): %d %v", x.o, n, ok)
		}
	}
	for _, o := range edgeOps() {
		n, ok := Pack(o)
		if fitsOp(o) && (n != numberOf(o) || !ok) || !fitsOp(o) && (n != 0 || ok) {
			t.Fatalf("Pack(%v): %d %v", o, n, ok)
		}
	}
}

func TestPackRespP5_1(t *testing.T) {
	for _, x := range []struct {
		r    api.Resp
		want uint64
	}{
		{api.Resp{}, 0},
		{api.Resp{Kind: api.Done, Value: 1}, 1},
		{api.Resp{Kind: api.Done, Value: mostValue}, 268435455},
		{api.Resp{Kind: api.None}, 268435456},
		{api.Resp{Kind: api.Unlike, Value: 7}, 1073741831},
		{api.Resp{Kind: api.NoMemory}, 1342177280},
	} {
		if n, ok := PackResp(x.r); n != x.want || !ok {
			t.Errorf("PackResp(%v): %d %v", x.r, n, ok)
		}
	}
	for _, r := range edgeResps() {
		n, ok := PackResp(r)
		want := uint64(r.Kind)*codeUnit + uint64(r.Value)
		if fitsResp(r) && (n != want || !ok) || !fitsResp(r) && (n != 0 || ok) {
			t.Fatalf("PackResp(%v): %d %v", r, n, ok)
		}
	}
}

// words for Unpack and UnpackResp: numbers of right ones, those beside them, and the same with something above 2^32.
func words() []uint64 {
	var l []uint64
	for n := uint64(0); n < 1<<36; n += 999983 {
		l = append(l, n)
	}
	for _, unit := range []uint64{1, aUnit, keyUnit, codeUnit, wordUnit, 1 << 36, 1 << 48, 1 << 60} {
		for m := uint64(0); m < 20; m++ {
			l = append(l, m*unit-1, m*unit, m*unit+1, m*unit+1023, m*unit+1024)
		}
	}
	r := rand.New(rand.NewSource(3))
	for range 20000 {
		l = append(l, r.Uint64()>>r.Intn(64))
	}
	for _, o := range rightOps() {
		n := numberOf(o)
		l = append(l, n, n+1, n-1, n^1<<uint(r.Intn(64)), n+wordUnit, n+15*codeUnit, n+1<<63)
	}
	return append(l, math.MaxUint64, math.MaxUint64-1, math.MaxInt64)
}

func TestUnpackP5_1(t *testing.T) {
	for _, x := range []struct {
		n    uint64
		want api.Op
		ok   bool
	}{
		{0, api.Op{}, true},
		{1, api.Op{}, false},
		{1024, api.Op{}, false},
		{1048576, api.Op{}, false},
		{268435456, api.Op{Code: api.Enqueue}, true},
		{268435457, api.Op{}, false},
		{268440576, api.Op{Code: api.Enqueue, A: 5}, true},
		{1882198021, api.Op{Code: api.MapSwap, Key: 3, A: 4, B: 5}, true},
		{2147483647, api.Op{Code: api.MapSwap, Key: 255, A: 1023, B: 1023}, true},
		{4025483264, api.Op{Code: api.SemDrop, Key: 255}, true},
		{15 * codeUnit, api.Op{}, false},
		{wordUnit - 1, api.Op{}, false},
		{wordUnit, api.Op{}, false},
		{wordUnit + 268435456, api.Op{}, false},
		{1 << 63, api.Op{}, false},
		{math.MaxUint64, api.Op{}, false},
	} {
		if o, ok := Unpack(x.n); o != x.want || ok != x.ok {
			t.Errorf("Unpack(%d): %v %v", x.n, o, ok)
		}
	}
	for _, n := range words() {
		want := opOf(n)
		right := fitsOp(want) && numberOf(want) == n
		o, ok := Unpack(n)
		if right && (o != want || !ok) || !right && (o != api.Op{} || ok) {
			t.Fatalf("Unpack(%d): %v %v", n, o, ok)
		}
	}
}

func TestUnpackRespP5_1(t *testing.T) {
	for _, x := range []struct {
		n    uint64
		want api.Resp
		ok   bool
	}{
		{0, api.Resp{}, true},
		{1, api.Resp{Kind: api.Done, Value: 1}, true},
		{268435455, api.Resp{Kind: api.Done, Value: mostValue}, true},
		{268435456, api.Resp{Kind: api.None}, true},
		{268435457, api.Resp{}, false},
		{536870912, api.Resp{Kind: api.Full}, true},
		{805306368, api.Resp{Kind: api.Busy}, true},
		{1073741831, api.Resp{Kind: api.Unlike, Value: 7}, true},
		{1342177279, api.Resp{Kind: api.Unlike, Value: mostValue}, true},
		{1342177280, api.Resp{Kind: api.NoMemory}, true},
		{1342177281, api.Resp{}, false},
		{6 * codeUnit, api.Resp{}, false},
		{wordUnit - 1, api.Resp{}, false},
		{wordUnit, api.Resp{}, false},
		{wordUnit + 1, api.Resp{}, false},
		{1 << 63, api.Resp{}, false},
		{math.MaxUint64, api.Resp{}, false},
	} {
		if r, ok := UnpackResp(x.n); r != x.want || ok != x.ok {
			t.Errorf("UnpackResp(%d): %v %v", x.n, r, ok)
		}
	}
	for _, n := range words() {
		want := api.Resp{Kind: int(n / codeUnit), Value: int(n % codeUnit)}
		right := fitsResp(want)
		r, ok := UnpackResp(n)
		if right && (r != want || !ok) || !right && (r != api.Resp{} || ok) {
			t.Fatalf("UnpackResp(%d): %v %v", n, r, ok)
		}
	}
}

func TestOpsComeBackP5_3(t *testing.T) {
	byNumber, byText := map[uint64]api.Op{}, map[string]api.Op{}
	for _, o := range rightOps() {
		n, packed := Pack(o)
		if back, ok := Unpack(n); back != o || !ok || !packed || n >= wordUnit {
			t.Fatalf("%v: the number %d %v, back %v %v", o, n, packed, back, ok)
		}
		s := Text(o)
		if back, ok := Parse(s); back != o || !ok {
			t.Fatalf("%v: the text %q, back %v %v", o, s, back, ok)
		}
		if p, twice := byNumber[n]; twice && p != o {
			t.Fatalf("%v and %v have the number %d", o, p, n)
		}
		if p, twice := byText[s]; twice && p != o {
			t.Fatalf("%v and %v have the text %q", o, p, s)
		}
		byNumber[n], byText[s] = o, o
	}
	if len(byNumber) < 4000 || len(byNumber) != len(byText) {
		t.Errorf("only %d numbers and %d texts were held against one another", len(byNumber), len(byText))
	}
}

func TestRespsComeBackP5_3(t *testing.T) {
	byNumber, byText := map[uint64]api.Resp{}, map[string]api.Resp{}
	for _, r := range rightResps() {
		n, packed := PackResp(r)
		if back, ok := UnpackResp(n); back != r || !ok || !packed || n >= wordUnit {
			t.Fatalf("%v: the number %d %v, back %v %v", r, n, packed, back, ok)
		}
		s := TextResp(r)
		if back, ok := ParseResp(s); back != r || !ok {
			t.Fatalf("%v: the text %q, back %v %v", r, s, back, ok)
		}
		if p, twice := byNumber[n]; twice && p != r {
			t.Fatalf("%v and %v have the number %d", r, p, n)
		}
		if p, twice := byText[s]; twice && p != r {
			t.Fatalf("%v and %v have the text %q", r, p, s)
		}
		byNumber[n], byText[s] = r, r
	}
	if len(byNumber) < 1000 || len(byNumber) != len(byText) {
		t.Errorf("only %d numbers and %d texts were held against one another", len(byNumber), len(byText))
	}
}

// All numbers of operations that have a Key and an A at most: each comes back by number and by text.
func TestAllSmallOpsP5_3(t *testing.T) {
	count := 0
	for _, x := range table() {
		if x.b {
			continue
		}
		for key := range 256 {
			if key > 0 && !x.key {
				break
			}
			for a := range 1024 {
				if a > 0 && !x.a {
					break
				}
				o := api.Op{Code: x.code, Key: key, A: a}
				n, _ := Pack(o)
				back, ok := Unpack(n)
				read, readOK := Parse(Text(o))
				if n != numberOf(o) || back != o || !ok || read != o || !readOK {
					t.Fatalf("%v: %d, back %v %v, read %v %v", o, n, back, ok, read, readOK)
				}
				count++
			}
		}
	}
	if count != 4+1024+7*256+2*256*1024 {
		t.Errorf("%d operations", count)
	}
}
