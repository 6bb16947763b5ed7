package asm

import (
	"math/rand"
	"slices"
	"strconv"
	"strings"
	"testing"

	"sapling/api"
	"sapling/code"
)

// lines answers a text of some lines.
func lines(list ...string) string { return strings.Join(list, "\n") }

// P9.1
func TestExample(t *testing.T) {
	p, at, e := Assemble(lines("a:", "push 1", "zero a", "halt"))
	if !slices.Equal(p, []api.Ins{{Op: api.OpPush, N: 1}, {Op: api.OpZero}, {Op: api.OpHalt}}) || at != 0 || e != api.OK {
		t.Errorf("%v, %d, %d", p, at, e)
	}
	if s, e := Disassemble(p); s != "l0:\npush 1\nzero l0\nhalt\n" || e != api.OK {
		t.Errorf("%q, %d", s, e)
	}
}

// P9.1
func TestLines(t *testing.T) {
	for s, want := range map[string]api.Ins{
		"halt": {Op: api.OpHalt}, "push 0": {Op: api.OpPush}, "push -7": {Op: api.OpPush, N: -7},
		"push 9223372036854775807": {Op: api.OpPush, N: 1<<63 - 1}, "fail -9223372036854775808": {Op: api.OpFail, N: -1 << 63},
		"load 15": {Op: api.OpLoad, N: 15}, `text ""`: {Op: api.OpText}, `text "a b;c:"`: {Op: api.OpText, S: "a b;c:"},
		`text "\00\22\5c\41"`: {Op: api.OpText, S: "\x00\"\\A"}, "x:\njump x": {Op: api.OpJump}, "halt:\njump halt": {Op: api.OpJump},
		"jump x\nx:\ny:\nz:\npop": {Op: api.OpJump, N: 1}, "\n;note\n; push\npop\n\n;": {Op: api.OpPop}, "-._9:\nzero -._9": {Op: api.OpZero},
		"jump " + strings.Repeat("n", 32) + "\n" + strings.Repeat("n", 32) + ":\ndup": {Op: api.OpJump, N: 1},
	} {
		p, at, e := Assemble(s)
		if len(p) == 0 || p[0] != want || at != 0 || e != api.OK {
			t.Errorf("%q: %v, %d, %d", s, p, at, e)
		}
	}
}

// P9.1
func TestWrongLines(t *testing.T) {
	for _, s := range []string{
		" ", "halt ", " halt", "HALT", "nop", "halt 1", "push", "push ", "push x", "push 01", "push -0", "push +1", "push  1", "push 1 ",
		"push 9223372036854775808", "push 1;", "load", "load x", "text", "text a", `text "a`, `text "a" `, `text  "a"`, `text "\4"`, `text "\4A"`,
		"text \"\t\"", "jump", "jump ", "jump A", "jump .a", "jump a b", "jump a:", "a :", "A:", ":", "a::", "a:b", ".a:", "a: ", "a:halt",
		" ;", "halt;", "halt\r", "\r", "push\t1", strings.Repeat("n", 33) + ":", "jump " + strings.Repeat("n", 33), "load -0", "write 0", "é",
	} {
		p, at, e := Assemble(lines("a:", "halt", s, "nonsense"))
		if len(p) != 0 || at != 3 || e != api.ErrSyntax {
			t.Errorf("%q: %v, %d, %d", s, p, at, e)
		}
	}
}

// P9.1
func TestFaultsInOrder(t *testing.T) {
	many := strings.Repeat("halt\n", 257)
	for _, c := range []struct {
		s    string
		at   int
		want api.Errno
	}{
		{lines("a:", "halt", "a:"), 3, api.ErrTwice}, {lines("a:", "a:", "nonsense"), 2, api.ErrTwice}, {lines("nonsense", "a:", "a:"), 1, api.ErrSyntax},
		{lines("jump b", "halt", "nonsense"), 3, api.ErrSyntax}, {lines("", "halt", "jump b", "jump c"), 3, api.ErrLabel},
		{lines("load 16", "jump b"), 2, api.ErrLabel}, {lines("halt", "; x", "load 16", "load 17"), 3, api.ErrCode}, {lines("load -1"), 1, api.ErrCode},
		{lines("jump a", "halt", "a:"), 1, api.ErrCode}, {lines("halt", "", "call a", "a:"), 3, api.ErrCode}, {lines("a:", "halt", "b:"), 0, api.OK},
		{lines(`text "` + strings.Repeat("x", 257) + `"`), 1, api.ErrCode}, {lines(`text "` + strings.Repeat("x", 256) + `"`), 0, api.OK},
		{"", 0, api.ErrMany}, {lines("a:", ";"), 0, api.ErrMany}, {many, 0, api.ErrMany}, {many[5:], 0, api.OK}, {many + "jump x", 258, api.ErrLabel},
		{"load 16\n" + many, 0, api.ErrMany}, {many + "a:\nzero a", 0, api.ErrMany}, {"a:\na:\n" + strings.Repeat(";", 65531), 0, api.ErrLong},
		{"a:\na:\n" + strings.Repeat(";", 65530), 2, api.ErrTwice}, {"halt\n" + strings.Repeat("\n", 65531), 0, api.OK},
	} {
		if p, at, e := Assemble(c.s); at != c.at || e != c.want || e != api.OK && len(p) != 0 {
			t.Errorf("%.40q: %d, %d instead of %d, %d", c.s, at, e, c.at, c.want)
		}
	}
}

// P9.1
func TestDisassemble(t *testing.T) {
	p := []api.Ins{{Op: api.OpText, S: "a\"\\\n~\x7f"}, {Op: api.OpCall, N: 3}, {Op: api.OpStore, N: 15}, {Op: api.OpJump, N: 3}, {Op: api.OpFail, N: -3}}
	want := lines(`text "a\22\5c\0a~\7f"`, "call l3", "store 15", "l3:", "jump l3", "fail -3", "")
	if s, e := Disassemble(p); s != want || e != api.OK {
		t.Errorf("%q, %d", s, e)
	}
	for _, c := range []struct {
		p    []api.Ins
		want api.Errno
	}{
		{nil, api.ErrMany}, {make([]api.Ins, 257), api.ErrMany}, {make([]api.Ins, 1), api.ErrCode},
		{[]api.Ins{{Op: api.OpJump, N: 1}}, api.ErrCode}, {[]api.Ins{{Op: api.OpHalt, N: 1}}, api.ErrCode},
	} {
		if s, e := Disassemble(c.p); s != "" || e != c.want {
			t.Errorf("%.40v: %q, %d", c.p, s, e)
		}
	}
}

func random(r *rand.Rand) []api.Ins {
	p := make([]api.Ins, 1+r.Intn(15))
	for i := range p {
		x := api.Ins{Op: 1 + r.Intn(30)}
		switch code.Takes(x.Op) {
		case code.Num:
			x.N = int(r.Uint64()) >> r.Intn(64)
		case code.Text:
			b := make([]byte, r.Intn(9))
			r.Read(b)
			x.S = string(b)
		case code.Cell:
			x.N = r.Intn(16)
		case code.Place:
			x.N = r.Intn(len(p))
		}
		p[i] = x
	}
	return p
}

// P9.2
func TestAssembleOfDisassemble(t *testing.T) {
	r := rand.New(rand.NewSource(1))
	for range 2000 {
		p := random(r)
		s, e := Disassemble(p)
		if e != api.OK {
			t.Fatalf("%v: %d", p, e)
		}
		if got, at, e := Assemble(s); !slices.Equal(got, p) || at != 0 || e != api.OK {
			t.Fatalf("%q: %v, %d, %d", s, got, at, e)
		}
	}
	texts := slices.Repeat([]api.Ins{{Op: api.OpText, S: strings.Repeat("x", 256)}}, 256)
	if s, e := Disassemble(texts); e != api.OK || len(s) != 256*264 {
		t.Errorf("%d bytes, %d", len(s), e)
	}
}

// P9.3
func TestLinesThatAreNothing(t *testing.T) {
	r := rand.New(rand.NewSource(2))
	for range 1000 {
		p := random(r)
		s, _ := Disassemble(p)
		var out []string
		for _, l := range strings.Split(s, "\n") {
			for r.Intn(3) == 0 {
				out = append(out, []string{"", ";", "; halt", ";a:"}[r.Intn(4)])
			}
			if word, rest, ok := strings.Cut(l, " l"); ok && (word == "jump" || word == "zero" || word == "call") {
				l = word + " other-" + rest
			} else if strings.HasSuffix(l, ":") {
				l = "other-" + l[1:]
			}
			out = append(out, l)
		}
		if got, at, e := Assemble(lines(out...)); !slices.Equal(got, p) || at != 0 || e != api.OK {
			t.Fatalf("%q: %v, %d, %d", out, got, at, e)
		}
	}
	for n := range 4 {
		if _, at, e := Assemble(strings.Repeat("\n;x\n", n) + "load 99"); at != 2*n+1 || e != api.ErrCode {
			t.Errorf("%d: line %d, %d", n, at, e)
		}
	}
}

// P9.4
func TestNewMemory(t *testing.T) {
	p := append(make([]api.Ins, 0, 5), api.Ins{Op: api.OpHalt}, api.Ins{Op: api.OpJump})
	before := slices.Clone(p[:5])
	Disassemble(p)
	if !slices.Equal(p[:5], before) {
		t.Errorf("what was handed in is changed: %v", p[:5])
	}
	a, _, _ := Assemble("halt")
	b, _, _ := Assemble("halt")
	a[0].N = 5
	if b[0].N != 0 {
		t.Error("two answers share memory: " + strconv.Itoa(b[0].N))
	}
}
