package code

import (
	"math"
	"math/rand"
	"slices"
	"strings"
	"testing"

	"sapling/api"
)

// ops are the constants of package api, by their words.
var ops = map[string]int{
	"halt": api.OpHalt, "push": api.OpPush, "text": api.OpText, "pop": api.OpPop, "dup": api.OpDup, "swap": api.OpSwap,
	"load": api.OpLoad, "store": api.OpStore, "add": api.OpAdd, "sub": api.OpSub, "mul": api.OpMul, "div": api.OpDiv,
	"mod": api.OpMod, "less": api.OpLess, "eq": api.OpEq, "not": api.OpNot, "jump": api.OpJump, "zero": api.OpZero,
	"call": api.OpCall, "ret": api.OpRet, "cat": api.OpCat, "len": api.OpLen, "cut": api.OpCut, "str": api.OpStr,
	"num": api.OpNum, "read": api.OpRead, "count": api.OpCount, "path": api.OpPath, "write": api.OpWrite, "fail": api.OpFail,
}

// takes are the words that take something.
var takes = map[string]int{
	"push": Num, "fail": Num, "text": Text, "load": Cell, "store": Cell, "jump": Place, "zero": Place, "call": Place,
}

// P8.1
func TestWords(t *testing.T) {
	if None != 0 || Num != 1 || Text != 2 || Cell != 3 || Place != 4 {
		t.Error("the constants")
	}
	for word, op := range ops {
		if Word(op) != word || Op(word) != op || Takes(op) != takes[word] {
			t.Errorf("%s, %d: %q, %d, %d", word, op, Word(op), Op(word), Takes(op))
		}
	}
	if len(ops) != 30 {
		t.Errorf("%d words", len(ops))
	}
	for _, op := range []int{0, -1, 31, math.MinInt, math.MaxInt} {
		if Word(op) != "" || Takes(op) != None {
			t.Errorf("%d: %q, %d", op, Word(op), Takes(op))
		}
	}
	for _, word := range []string{"", "Halt", "halt ", "nop", "push 1"} {
		if Op(word) != 0 {
			t.Errorf("%q: %d", word, Op(word))
		}
	}
}

var long = strings.Repeat("x", 257)

// P8.1
func TestCheckOfOne(t *testing.T) {
	for word, op := range ops {
		good, bad := []api.Ins{{Op: op}}, []api.Ins{}
		switch takes[word] {
		case None:
			bad = append(bad, api.Ins{Op: op, N: 1}, api.Ins{Op: op, S: "x"}, api.Ins{Op: op, N: -1})
		case Num:
			good = append(good, api.Ins{Op: op, N: math.MinInt}, api.Ins{Op: op, N: math.MaxInt})
			bad = append(bad, api.Ins{Op: op, S: "x"}, api.Ins{Op: op, N: 1, S: "x"})
		case Text:
			good = append(good, api.Ins{Op: op, S: "\x00\xff"}, api.Ins{Op: op, S: long[1:]})
			bad = append(bad, api.Ins{Op: op, S: long}, api.Ins{Op: op, N: 1, S: "x"})
		case Cell:
			good = append(good, api.Ins{Op: op, N: 15})
			bad = append(bad, api.Ins{Op: op, N: 16}, api.Ins{Op: op, N: -1}, api.Ins{Op: op, S: "x"})
		case Place:
			bad = append(bad, api.Ins{Op: op, N: 1}, api.Ins{Op: op, N: -1}, api.Ins{Op: op, S: "x"})
		}
		for _, x := range good {
			if at, e := Check([]api.Ins{x}); at != 0 || e != api.OK {
				t.Errorf("%s, %v: %d, %d", word, x, at, e)
			}
		}
		for _, x := range bad {
			if at, e := Check([]api.Ins{{Op: api.OpHalt}, {Op: api.OpHalt}, x}[2:]); at != 0 || e != api.ErrCode {
				t.Errorf("%s, %v: %d, %d", word, x, at, e)
			}
		}
	}
}

// halts answers so many instructions.
func halts(n int) []api.Ins { return slices.Repeat([]api.Ins{{Op: api.OpHalt}}, n) }

// P8.1
func TestCheck(t *testing.T) {
	for _, c := range []struct {
		p    []api.Ins
		at   int
		want api.Errno
	}{
		{nil, 0, api.ErrMany}, {[]api.Ins{}, 0, api.ErrMany}, {halts(256), 0, api.OK}, {halts(257), 0, api.ErrMany},
		{append(halts(256), api.Ins{Op: 99}), 0, api.ErrMany}, {append(halts(255), api.Ins{Op: 99}), 255, api.ErrCode},
		{append(halts(3), api.Ins{}, api.Ins{Op: 31}), 3, api.ErrCode}, {append(halts(3), api.Ins{Op: api.OpJump, N: 3}), 0, api.OK},
		{append(halts(3), api.Ins{Op: api.OpCall, N: 4}), 3, api.ErrCode}, {append([]api.Ins{{Op: api.OpZero, N: 3}}, halts(3)...), 0, api.OK},
		{[]api.Ins{{Op: -1}}, 0, api.ErrCode}, {[]api.Ins{{Op: api.OpJump, N: 1}}, 0, api.ErrCode},
	} {
		if at, e := Check(c.p); at != c.at || e != c.want {
			t.Errorf("%.60v: %d, %d", c.p, at, e)
		}
		if s, e := Encode(c.p); e != c.want || e != api.OK && s != "" {
			t.Errorf("%.60v: %q, %d", c.p, s, e)
		}
	}
}

// P8.1
func TestBytes(t *testing.T) {
	p := []api.Ins{{Op: api.OpPush, N: -2}, {Op: api.OpText, S: "(\"\n"}, {Op: api.OpStore, N: 15}, {Op: api.OpJump, N: 0}, {Op: api.OpHalt}}
	if s, e := Encode(p); s != "((4:push2:-2)(4:text3:(\"\n)(5:store2:15)(4:jump1:0)(4:halt))" || e != api.OK {
		t.Errorf("%q, %d", s, e)
	}
	texts := slices.Repeat([]api.Ins{{Op: api.OpText, S: long[1:]}}, 256)
	if s, e := Encode(texts); s != "" || e != api.ErrLong {
		t.Errorf("%d bytes, %d", len(s), e)
	}
	for s, want := range map[string]api.Errno{
		"": api.ErrForm, "()": api.ErrForm, "4:halt": api.ErrForm, "(4:halt)": api.ErrForm, "((4:halt)": api.ErrForm, "(())": api.ErrForm,
		"((4:halt0:))": api.ErrForm, "((4:push))": api.ErrForm, "((4:push1:1)(4:push2:01))": api.ErrForm, "((4:push2:-0))": api.ErrForm,
		"((4:push2:+1))": api.ErrForm, "((4:push0:))": api.ErrForm, "((4:push1:11:1))": api.ErrForm, "((4:push1:x))": api.ErrForm,
		"((4:push19:9223372036854775808))": api.ErrForm, "((4:push19:9223372036854775807))": api.OK, "((4:push20:-9223372036854775808))": api.OK,
		"((3:nop))": api.ErrForm, "((0:))": api.ErrForm, "((0:1:1))": api.ErrForm, "((4:jump1:1))": api.ErrForm, "((4:jump1:0))": api.OK,
		"((4:load2:16))": api.ErrForm, "((4:load2:15))": api.OK, "((4:load2:-1))": api.ErrForm, "((4:text257:" + long + "))": api.ErrForm,
		"((4:text256:" + long[1:] + "))": api.OK, "(((4:halt)))": api.ErrForm, "((4:push(1:1)))": api.ErrForm, "(4:halt(4:halt))": api.ErrForm,
		"(" + strings.Repeat("(4:halt)", 256) + ")": api.OK, "(" + strings.Repeat("(4:halt)", 257) + ")": api.ErrForm,
		strings.Repeat("(", 33): api.ErrDeep, strings.Repeat(" ", 65537): api.ErrLong, "((4:halt)) ": api.ErrForm,
	} {
		if p, e := Decode(s); e != want || e != api.OK && len(p) != 0 {
			t.Errorf("%.60q: %v, %d instead of %d", s, p, e, want)
		}
	}
}

func random(r *rand.Rand) []api.Ins {
	p := make([]api.Ins, 1+r.Intn(12))
	for i := range p {
		x := api.Ins{Op: 1 + r.Intn(30)}
		switch Takes(x.Op) {
		case Num:
			x.N = int(r.Uint64()) >> r.Intn(64)
		case Text:
			x.S = strings.Repeat(string(rune(r.Intn(300))), r.Intn(5))
		case Cell:
			x.N = r.Intn(16)
		case Place:
			x.N = r.Intn(len(p))
		}
		p[i] = x
	}
	return p
}

// P8.2
func TestThereAndBack(t *testing.T) {
	r := rand.New(rand.NewSource(1))
	for range 3000 {
		p := random(r)
		s, e := Encode(p)
		if e != api.OK {
			t.Fatalf("%v: %d", p, e)
		}
		if got, e := Decode(s); e != api.OK || !slices.Equal(got, p) {
			t.Fatalf("%q: %v, %d", s, got, e)
		}
		x := []byte(s)
		x[r.Intn(len(x))] = "()0123:-push"[r.Intn(12)]
		if got, e := Decode(string(x)); e == api.OK {
			if back, _ := Encode(got); back != string(x) {
				t.Fatalf("%q is written as %q", x, back)
			}
		}
	}
}

// P8.3
func TestNewMemory(t *testing.T) {
	p := append(make([]api.Ins, 0, 9), random(rand.New(rand.NewSource(2)))[:1]...)
	before := slices.Clone(p[:9])
	s, _ := Encode(p)
	Check(p)
	if !slices.Equal(p[:9], before) {
		t.Errorf("what was handed in is changed: %v", p)
	}
	a, _ := Decode(s)
	b, _ := Decode(s)
	a[0] = api.Ins{Op: 99}
	if b[0] == a[0] {
		t.Error("two answers share memory")
	}
}
