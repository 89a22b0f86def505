package ops

import (
	"math/rand"
	"regexp"
	"strconv"
	"strings"
	"testing"

	"roundelay/api"
)

func TestTextP5_2(t *testing.T) {
	for want, o := range map[string]api.Op{
		"none":               {},
		"enqueue 0":          {Code: api.Enqueue},
		"enqueue 5":          {Code: api.Enqueue, A: 5},
		"enqueue 1023":       {Code: api.Enqueue, A: 1023},
		"dequeue":            {Code: api.Dequeue},
		"length":             {Code: api.QueueLen},
		"get 0":              {Code: api.MapGet},
		"put 1 2":            {Code: api.MapPut, Key: 1, A: 2},
		"delete 255":         {Code: api.MapDelete, Key: 255},
		"swap 3 4 5":         {Code: api.MapSwap, Key: 3, A: 4, B: 5},
		"swap 0 0 0":         {Code: api.MapSwap},
		"swap 255 1023 1023": {Code: api.MapSwap, Key: 255, A: 1023, B: 1023},
		"size":               {Code: api.MapLen},
		"floor 10":           {Code: api.MapFloor, Key: 10},
		"set 7 0":            {Code: api.SemSet, Key: 7},
		"acquire 7":          {Code: api.SemAcquire, Key: 7},
		"release 7":          {Code: api.SemRelease, Key: 7},
		"value 7":            {Code: api.SemValue, Key: 7},
		"drop 7":             {Code: api.SemDrop, Key: 7},
	} {
		if s := Text(o); s != want {
			t.Errorf("Text(%v): %q, want %q", o, s, want)
		}
		if back, ok := Parse(want); back != o || !ok {
			t.Errorf("Parse(%q): %v %v", want, back, ok)
		}
	}
	for _, o := range edgeOps() {
		want := ""
		if fitsOp(o) {
			want = wordsOf(o)
		}
		if s := Text(o); s != want {
			t.Fatalf("Text(%v): %q, want %q", o, s, want)
		}
	}
}

func TestTextRespP5_2(t *testing.T) {
	for want, r := range map[string]api.Resp{
		"done 0":           {},
		"done 1":           {Value: 1},
		"done 268435455":   {Value: mostValue},
		"none":             {Kind: api.None},
		"full":             {Kind: api.Full},
		"busy":             {Kind: api.Busy},
		"unlike 0":         {Kind: api.Unlike},
		"unlike 1023":      {Kind: api.Unlike, Value: 1023},
		"unlike 268435455": {Kind: api.Unlike, Value: mostValue},
		"nomemory":         {Kind: api.NoMemory},
	} {
		if s := TextResp(r); s != want {
			t.Errorf("TextResp(%v): %q, want %q", r, s, want)
		}
		if back, ok := ParseResp(want); back != r || !ok {
			t.Errorf("ParseResp(%q): %v %v", want, back, ok)
		}
	}
	for _, r := range edgeResps() {
		want := ""
		if fitsResp(r) {
			want = wordsOfResp(r)
		}
		if s := TextResp(r); s != want {
			t.Fatalf("TextResp(%v): %q, want %q", r, s, want)
		}
	}
}

func refusesOp(t *testing.T, s string) {
	t.Helper()
	if o, ok := Parse(s); o != (api.Op{}) || ok {
		t.Errorf("Parse(%.40q): %v %v", s, o, ok)
	}
}

func refusesResp(t *testing.T, s string) {
	t.Helper()
	if r, ok := ParseResp(s); r != (api.Resp{}) || ok {
		t.Errorf("ParseResp(%.40q): %v %v", s, r, ok)
	}
}

// What hardly differs from a text is none.
func nearly(s string) []string {
	return []string{
		" " + s, s + " ", s + "  ", "\t" + s, s + "\n", s + "\r", s + "\x00", "\x00" + s, "\ufeff" + s, s + "\xff",
		s + " 0", s + " 1", s + " x", s + ";", "-" + s, "+" + s, s + "_", s + "," + s, s + "\n" + s, s + " " + s,
		strings.ToUpper(s), strings.ToUpper(s[:1]) + s[1:], s[1:], strings.Replace(s, " ", "  ", 1) + " ", s + "\u00a0", s + "\u0665",
	}
}

// wrongNumbers are no number that may stand anywhere.
func wrongNumbers() []string {
	return []string{
		"", " ", "-", "+", "-0", "+0", "00", "-1", "+1", "01", "007", "1.0", "1.", ".1", "1e1", "0x1", "0b1", "0o1", "1_0", "_1", "x", "a1", "1a", "\u0661", "\uff11", "1\x00", "\xff",
		"1 ", " 1", "\t1", "1\t", "1\n", "1,", "NaN", "Inf", "true", "268435456", "4294967296", "4294967297", "9223372036854775807", "9223372036854775808", "-9223372036854775808", "18446744073709551616", "18446744073709551617", "184467440737095516161",
	}
}

func TestParseWrongP5_2(t *testing.T) {
	for _, s := range []string{
		"", " ", "  ", "\n", "0", "1", "5 enqueue", "nonE", "non", "nones", "enq 5", "enqueue5", "enqueue_5", "enqueue\t5", "enqueue-5", "enqueue=5", "queue", "OpNone", "Enqueue 5", "MapGet 5", "done 1", "full", "busy", "unlike 1", "nomemory",
		"enqueue", "enqueue ", "enqueue 1024", "enqueue 9999", "enqueue 5 6", "none 0", "dequeue 0", "length 0", "size 0", "get", "get 256", "get 1 2", "put 1", "put 1 ", "put 256 1", "put 1 1024", "put 1 2 3", "delete", "delete 1 1",
		"swap", "swap 3", "swap 3 4", "swap 3 4 ", "swap 3 4 5 6", "swap 256 4 5", "swap 3 1024 5", "swap 3 4 1024", "swap  3 4 5", "swap 3  4 5", "swap 3 4  5", "swap 3,4,5", "floor 1023", "set 1", "set 1 1024", "acquire", "release 256", "value -1", "drop 1 0",
	} {
		refusesOp(t, s)
	}
	for _, s := range []string{"none", "enqueue 5", "dequeue", "get 25", "put 1 2", "swap 3 4 5", "size", "drop 0"} {
		for _, wrong := range nearly(s) {
			refusesOp(t, wrong)
		}
	}
	for _, n := range wrongNumbers() {
		for _, s := range []string{"enqueue N", "get N", "put N 1", "put 1 N", "swap N 4 5", "swap 3 N 5", "swap 3 4 N", "set N 0", "drop N"} {
			refusesOp(t, strings.Replace(s, "N", n, 1))
		}
	}
}

func TestParseRespWrongP5_2(t *testing.T) {
	for _, s := range []string{
		"", " ", "0", "done", "done ", "unlike", "unlike ", "Done 1", "done1", "done  1", "done\t1", "done 1 2", "none 0", "full 0", "busy 1", "nomemory 0", "NoMemory", "no memory", "ok", "ok 1", "enqueue 5", "dequeue", "length", "size", "don 1", "dones 1",
	} {
		refusesResp(t, s)
	}
	for _, s := range []string{"done 1", "none", "full", "busy", "unlike 25", "nomemory"} {
		for _, wrong := range nearly(s) {
			refusesResp(t, wrong)
		}
	}
	for _, n := range wrongNumbers() {
		refusesResp(t, "done "+n)
		refusesResp(t, "unlike "+n)
	}
}

// Great texts end as well: what they are is told by their beginning, or by their length.
func TestParseGreatP5_2(t *testing.T) {
	for _, part := range []string{" ", "0", "1", " 1", "x", "\xff", "none", "none "} {
		s := strings.Repeat(part, 1<<18)
		for _, name := range []string{"", "none", "enqueue ", "get ", "swap ", "swap 3 ", "swap 3 4 ", "swap 3 4 5"} {
			refusesOp(t, name+s)
		}
		for _, name := range []string{"", "done ", "none", "unlike ", "done 1"} {
			refusesResp(t, name+s)
		}
	}
}

var (
	opForm   = regexp.MustCompile(`\A(?:(none|dequeue|length|size)|(enqueue) (0|[1-9][0-9]{0,3})|(get|delete|floor|acquire|release|value|drop) (0|[1-9][0-9]{0,2})|(put|set) (0|[1-9][0-9]{0,2}) (0|[1-9][0-9]{0,3})|(swap) (0|[1-9][0-9]{0,2}) (0|[1-9][0-9]{0,3}) (0|[1-9][0-9]{0,3}))\z`)
	respForm = regexp.MustCompile(`\A(?:(none|full|busy|nomemory)|(done|unlike) (0|[1-9][0-9]{0,8}))\z`)
)

// plainParse reads a text by a pattern, not by telling it again.
func plainParse(s string) (api.Op, bool) {
	if !opForm.MatchString(s) {
		return api.Op{}, false
	}
	l := strings.Split(s, " ")
	var o api.Op
	for _, x := range table() {
		if x.name != l[0] {
			continue
		}
		o.Code, l = x.code, l[1:]
		for _, p := range []struct {
			used bool
			to   *int
		}{{x.key, &o.Key}, {x.a, &o.A}, {x.b, &o.B}} {
			if p.used {
				*p.to, _ = strconv.Atoi(l[0])
				l = l[1:]
			}
		}
		break
	}
	if !fitsOp(o) {
		return api.Op{}, false
	}
	return o, true
}

func plainParseResp(s string) (api.Resp, bool) {
	if !respForm.MatchString(s) {
		return api.Resp{}, false
	}
	name, number, _ := strings.Cut(s, " ")
	r := api.Resp{Kind: map[string]int{"done": 0, "none": 1, "full": 2, "busy": 3, "unlike": 4, "nomemory": 5}[name]}
	if number != "" {
		r.Value, _ = strconv.Atoi(number)
	}
	if !fitsResp(r) {
		return api.Resp{}, false
	}
	return r, true
}

// changed has one byte of a text left out, put in, or put in its place.
func changed(r *rand.Rand, s string) string {
	const bytes = "0123456789 -+abcdefilmnopqrstuwxz\n\t\x00\xff"
	i, c := r.Intn(len(s)+1), string(bytes[r.Intn(len(bytes))])
	switch rest := s[i:]; {
	case r.Intn(3) == 0 || rest == "":
		return s[:i] + c + rest
	case r.Intn(2) == 0:
		return s[:i] + rest[1:]
	default:
		return s[:i] + c + rest[1:]
	}
}

func TestParseChangedP5_2(t *testing.T) {
	r := rand.New(rand.NewSource(4))
	var texts []string
	for _, o := range rightOps() {
		texts = append(texts, wordsOf(o))
	}
	for _, x := range rightResps() {
		texts = append(texts, wordsOfResp(x))
	}
	right := 0
	for range 200000 {
		s := changed(r, texts[r.Intn(len(texts))])
		if r.Intn(4) == 0 {
			s = changed(r, s)
		}
		want, wantOK := plainParse(s)
		if o, ok := Parse(s); o != want || ok != wantOK {
			t.Fatalf("Parse(%q): %v %v, want %v %v", s, o, ok, want, wantOK)
		}
		wantResp, wantRespOK := plainParseResp(s)
		if x, ok := ParseResp(s); x != wantResp || ok != wantRespOK {
			t.Fatalf("ParseResp(%q): %v %v, want %v %v", s, x, ok, wantResp, wantRespOK)
		}
		if wantOK || wantRespOK {
			right++
		}
	}
	if right < 1000 {
		t.Errorf("only %d changed texts were right ones", right)
	}
}
