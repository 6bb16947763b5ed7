package vm

import (
	"fmt"
	"math/rand"
	"slices"
	"strings"
	"testing"

	"sapling/api"
	"sapling/asm"
	"sapling/tree"
)

// program assembles lines, parted by "; " here.
func program(t *testing.T, s string) []api.Ins {
	t.Helper()
	p, at, e := asm.Assemble(strings.ReplaceAll(s, "; ", "\n"))
	if e != api.OK {
		t.Fatalf("%s: %d in line %d", s, e, at)
	}
	return p
}

func makeTree(t *testing.T, pairs ...string) api.Tree {
	t.Helper()
	var list []api.File
	for i := 0; i < len(pairs); i += 2 {
		list = append(list, api.File{Path: pairs[i], Data: pairs[i+1]})
	}
	out, e := tree.Make(list)
	if e != api.OK {
		t.Fatalf("%v: %d", pairs, e)
	}
	return out
}

func same(a, b api.Tree) bool { return slices.Equal(a.Files, b.Files) }

// seen is what the programs of these tests see.
func seen(t *testing.T) api.Tree { return makeTree(t, "a", "one", "b/c", "") }

// P10.1: what is on the stack behind some lines is written to files, the last value first: n its number, t its text.
func TestValues(t *testing.T) {
	for s, want := range map[string]string{
		"push 5": "n5", `text "x"`: "tx", "push 1; push 2; pop": "n1", "push 1; dup": "n1 n1", "push 1; push 2; swap": "n1 n2",
		`push 1; text "x"; swap`: "n1 tx", "load 3": "n0", "push 7; store 15; load 15; load 14": "n0 n7", `text "q"; store 0; load 0; load 0`: "tq tq",
		"push 2; push 3; add": "n5", "push 2; push 3; sub": "n-1", "push 2; push 3; mul": "n6",
		"push 9223372036854775807; push 1; add": "n-9223372036854775808", "push -9223372036854775808; push 1; sub": "n9223372036854775807",
		"push 4611686018427387904; push 4; mul": "n0", "push -9223372036854775808; push -1; mul": "n-9223372036854775808",
		"push 7; push 2; div": "n3", "push -7; push 2; div": "n-3", "push 7; push -2; div": "n-3", "push -7; push -2; div": "n3",
		"push 7; push 2; mod": "n1", "push -7; push 2; mod": "n-1", "push 7; push -2; mod": "n1", "push -7; push -2; mod": "n-1",
		"push -9223372036854775808; push -1; div": "n-9223372036854775808", "push -9223372036854775808; push -1; mod": "n0",
		"push 1; push 2; less": "n1", "push 2; push 1; less": "n0", "push 2; push 2; less": "n0", "push -1; push 0; less": "n1",
		`text "a"; text "b"; less`: "n1", `text "b"; text "a"; less`: "n0", `text ""; text ""; less`: "n0", `text "\7f"; text "\ff"; less`: "n1",
		`text "a"; text "aa"; less`: "n1", `text "a"; text "a"; less`: "n0",
		"push 1; push 1; eq": "n1", "push 1; push 2; eq": "n0", `text "a"; text "a"; eq`: "n1", `text "a"; text "b"; eq`: "n0",
		`push 0; text ""; eq`: "n0", `text "1"; push 1; eq`: "n0", "push 0; not": "n1", "push 1; not": "n0", "push -5; not": "n0",
		`text "ab"; text "cd"; cat`: "tabcd", `text ""; text ""; cat`: "t", `text "abc"; len`: "n3", `text ""; len`: "n0",
		`text "abcd"; push 1; push 3; cut`: "tbc", `text "abcd"; push 0; push 4; cut`: "tabcd", `text "abcd"; push 4; push 4; cut`: "t",
		`text ""; push 0; push 0; cut`: "t", "push -12; str": "t-12", "push 0; str": "t0", "push -9223372036854775808; str": "t-9223372036854775808",
		`text "-12"; num`: "n1 n-12", `text "0"; num`: "n1 n0", `text "x"; num`: "n0 n0", `text ""; num`: "n0 n0", `text "01"; num`: "n0 n0",
		`text "-0"; num`: "n0 n0", `text "+1"; num`: "n0 n0", `text "9223372036854775807"; num`: "n1 n9223372036854775807",
		`text "9223372036854775808"; num`: "n0 n0", `text "-9223372036854775808"; num`: "n1 n-9223372036854775808", `text " 1"; num`: "n0 n0",
		`text "a"; read`: "n1 tone", `text "b/c"; read`: "n1 t", `text "b"; read`: "n0 t", `text "A"; read`: "n0 t", `text ""; read`: "n0 t",
		"count": "n2", "push 0; path": "n1 ta", "push 1; path": "n1 tb/c", "push 2; path": "n0 t", "push -1; path": "n0 t",
		"push -9223372036854775808; path":    "n0 t",
		"push 1; jump x; push 2; x:; push 3": "n3 n1", "push 0; zero x; push 2; x:; push 3": "n3", "push 7; zero x; push 2; x:; push 3": "n3 n2",
		"call f; push 2; jump e; f:; push 1; ret; e:; push 3": "n3 n2 n1", "": "",
	} {
		m, e := New(program(t, s+"; push 0; pop"), seen(t))
		if e != api.OK {
			t.Fatalf("%s: %d", s, e)
		}
		m.Step(4096)
		if _, e := m.Result(); e != api.OK {
			t.Errorf("%s: %d", s, e)
			continue
		}
		var got []string
		for _, v := range m.stack {
			if v.Text {
				got = append(got, "t"+v.S)
			} else {
				got = append(got, fmt.Sprintf("n%d", v.N))
			}
			if v.Text && v.N != 0 || !v.Text && v.S != "" {
				t.Errorf("%s: a value that can't be: %v", s, v)
			}
		}
		slices.Reverse(got)
		if strings.Join(got, " ") != want {
			t.Errorf("%s: %q instead of %q", s, got, want)
		}
	}
}

// P10.1
func TestGivesUp(t *testing.T) {
	for s, want := range map[string]api.Errno{
		"pop": api.ErrStack, "dup": api.ErrStack, "swap": api.ErrStack, "push 1; swap": api.ErrStack, "store 0": api.ErrStack,
		"add": api.ErrStack, "push 1; add": api.ErrStack, `text "a"; add`: api.ErrStack, `push 1; text "a"; add`: api.ErrKind, `text "a"; push 1; add`: api.ErrKind,
		`text "a"; push 1; sub`: api.ErrKind, `push 1; text "a"; mul`: api.ErrKind, `text "a"; push 0; div`: api.ErrKind, `text "a"; push 0; mod`: api.ErrKind,
		"push 1; push 0; div": api.ErrDiv, "push 1; push 0; mod": api.ErrDiv, "push 0; div": api.ErrStack,
		`push 1; text "a"; less`: api.ErrKind, `text "a"; push 1; less`: api.ErrKind, `text "a"; less`: api.ErrStack, "push 1; eq": api.ErrStack,
		"not": api.ErrStack, `text "a"; not`: api.ErrKind, "x:; zero x": api.ErrStack, `x:; text "a"; zero x`: api.ErrKind, "ret": api.ErrStack,
		"f:; call f": api.ErrStack, "push 1; cat": api.ErrStack, `push 1; text "a"; cat`: api.ErrKind, `text "a"; push 1; cat`: api.ErrKind,
		"len": api.ErrStack, "push 1; len": api.ErrKind, "push 1; push 1; cut": api.ErrStack, "push 1; push 1; push 1; cut": api.ErrKind,
		`text "a"; text "a"; push 1; cut`: api.ErrKind, `text "a"; push 1; text "a"; cut`: api.ErrKind, `text "ab"; push 2; push 1; cut`: api.ErrSize,
		`text "ab"; push -1; push 1; cut`: api.ErrSize, `text "ab"; push 0; push 3; cut`: api.ErrSize, `text "ab"; push 3; push 3; cut`: api.ErrSize,
		"str": api.ErrStack, `text "a"; str`: api.ErrKind, "num": api.ErrStack, "push 1; num": api.ErrKind, "read": api.ErrStack, "push 1; read": api.ErrKind,
		"path": api.ErrStack, `text "a"; path`: api.ErrKind, `text "a"; write`: api.ErrStack, `push 1; text "a"; write`: api.ErrKind,
		`text "a"; push 1; write`: api.ErrKind, `text "A"; text "x"; write`: api.ErrPath, `text ""; text "x"; write`: api.ErrPath,
		`text "a"; dup; write; text "a/b"; text "x"; write`: api.ErrClash, `text "a/b"; dup; write; text "a"; text "x"; write`: api.ErrClash,
		"fail 0": api.ErrFail, "fail 42": api.ErrFail, "push 5; pop; pop": api.ErrStack,
	} {
		if out, _, e := Run(program(t, s+"; halt"), seen(t)); e != want || len(out.Files) != 0 {
			t.Errorf("%s: %v, %d instead of %d", s, out, e, want)
		}
	}
}

// P10.1
func TestNoRoom(t *testing.T) {
	fill := func(n int) string { return strings.Repeat("push 1; ", n) }
	for s, want := range map[string]api.Errno{
		fill(64) + "halt": api.OK, fill(65) + "halt": api.ErrStack, fill(64) + "dup": api.ErrStack, fill(63) + "dup": api.OK,
		fill(64) + `text "a"`: api.ErrStack, fill(64) + "load 0": api.ErrStack, fill(64) + "count": api.ErrStack, fill(64) + "swap": api.OK,
		fill(64) + "add": api.OK, fill(64) + "path": api.ErrStack, fill(63) + "path": api.OK, fill(63) + `text "a"; read`: api.ErrStack,
		fill(62) + `text "a"; read`: api.OK, fill(63) + `text "1"; num`: api.ErrStack, fill(62) + `text "1"; num`: api.OK, fill(64) + "str": api.OK,
		fill(64) + "num": api.ErrKind, fill(64) + "read": api.ErrKind, fill(64) + "not": api.OK,
	} {
		if _, _, e := Run(program(t, s), seen(t)); e != want {
			t.Errorf("%s: %d instead of %d", s[len(s)-20:], e, want)
		}
	}
	deep := func(n int) string {
		s := ""
		for i := range n {
			s += fmt.Sprintf("call f%d; halt; f%d:; ", i, i)
		}
		return s + "halt"
	}
	if _, n, e := Run(program(t, deep(16)), api.Tree{}); e != api.OK || n != 17 {
		t.Errorf("16 calls: %d, %d", n, e)
	}
	if _, n, e := Run(program(t, deep(17)), api.Tree{}); e != api.ErrStack || n != 17 {
		t.Errorf("17 calls: %d, %d", n, e)
	}
}

// P10.1
func TestTextsThatAreTooLong(t *testing.T) {
	view := makeTree(t, "a", strings.Repeat("x", 2048), "b", strings.Repeat("y", 2047))
	for s, want := range map[string]api.Errno{
		`text "a"; read; pop; text ""; cat; len; str; text "n"; swap; write`:     api.OK,
		`text "a"; read; pop; text "z"; cat; halt`:                               api.ErrSize,
		`text "z"; text "a"; read; pop; cat; halt`:                               api.ErrSize,
		`text "b"; read; pop; text "z"; cat; dup; text "n"; swap; write; halt`:   api.OK,
		`text "b"; read; pop; text "zz"; cat; halt`:                              api.ErrSize,
		`text "b"; read; pop; text "z"; cat; text "a"; read; pop; eq; not; halt`: api.OK,
	} {
		if _, _, e := Run(program(t, s), view); e != want {
			t.Errorf("%s: %d instead of %d", s, e, want)
		}
	}
}

// P10.1
func TestFiles(t *testing.T) {
	for s, want := range map[string]api.Tree{
		`text "a"; text "x"; write`:                                       makeTree(t, "a", "x"),
		`text "a"; text "x"; write; text "a"; text "y"; write`:            makeTree(t, "a", "y"),
		`text "b"; dup; write; text "a/c"; text ""; write`:                makeTree(t, "a/c", "", "b", "b"),
		`text "a"; text "a"; read; pop; write`:                            makeTree(t, "a", "one"),
		`text "a"; text "x"; write; text "b"; text "a"; read; pop; write`: makeTree(t, "a", "x", "b", "one"),
		"halt": {},
	} {
		if got, _, e := Run(program(t, s), seen(t)); e != api.OK || !same(got, want) {
			t.Errorf("%s: %v, %d", s, got, e)
		}
	}
	s := "x:; load 0; push 1; add; dup; store 0; str; text \"\"; write; load 0; push 33; less; not; zero x"
	if got, _, e := Run(program(t, s), api.Tree{}); e != api.ErrMany || len(got.Files) != 0 {
		t.Errorf("33 files: %v, %d", got, e)
	}
	if got, _, e := Run(program(t, strings.ReplaceAll(s, "33", "32")), api.Tree{}); e != api.OK || len(got.Files) != 32 {
		t.Errorf("32 files: %v, %d", got, e)
	}
}

// P10.1
func TestEnds(t *testing.T) {
	for _, c := range []struct {
		s    string
		n    int
		want api.Errno
	}{
		{`text "a"; text "x"; write`, 3, api.OK}, {"push 1; push 0; div", 3, api.ErrDiv}, {"jump x; x:; halt; halt", 2, api.OK},
		{"x:; jump x", 4096, api.ErrFuel}, {"halt", 1, api.OK}, {"push 1", 1, api.OK}, {"pop; halt", 1, api.ErrStack},
		{"jump e; f:; ret; e:; call f", 3, api.OK},
	} {
		if _, n, e := Run(program(t, c.s), api.Tree{}); n != c.n || e != c.want {
			t.Errorf("%s: %d steps, %d", c.s, n, e)
		}
	}
}

// P10.1
func TestNewAndStates(t *testing.T) {
	bad := api.Tree{Files: []api.File{{Path: "A"}}}
	for _, c := range []struct {
		p    []api.Ins
		view api.Tree
		want api.Errno
	}{
		{nil, api.Tree{}, api.ErrMany}, {nil, bad, api.ErrMany}, {make([]api.Ins, 257), bad, api.ErrMany}, {make([]api.Ins, 1), bad, api.ErrCode},
		{[]api.Ins{{Op: api.OpHalt}}, bad, api.ErrArg}, {[]api.Ins{{Op: api.OpHalt}}, api.Tree{}, api.OK},
	} {
		m, e := New(c.p, c.view)
		if e != c.want || (m == nil) != (e != api.OK) {
			t.Errorf("%.30v: %v, %d", c.p, m, e)
		}
		if out, n, e := Run(c.p, c.view); e != c.want || len(out.Files) != 0 || e != api.OK && n != 0 {
			t.Errorf("%.30v: %v, %d, %d", c.p, out, n, e)
		}
	}
	var none *Machine
	if out, e := none.Result(); none.Step(5) != 0 || none.Done() || none.Steps() != 0 || e != api.ErrNil || len(out.Files) != 0 {
		t.Error("a nil machine")
	}
	m, _ := New(program(t, `text "a"; dup; write`), api.Tree{})
	for i, most := range []int{0, -1, -1 << 63, 1, 1} {
		did := m.Step(most)
		if out, e := m.Result(); did != max(0, most) || m.Done() || e != api.ErrState || len(out.Files) != 0 {
			t.Errorf("%d: %d, %t, %d", i, did, m.Done(), e)
		}
	}
	if did := m.Step(1 << 62); did != 1 || !m.Done() || m.Steps() != 3 || m.Step(5) != 0 || m.Steps() != 3 {
		t.Errorf("the last step: %d, %t, %d", did, m.Done(), m.Steps())
	}
}

// random answers a program that often does something.
func random(r *rand.Rand) []api.Ins {
	p := make([]api.Ins, 5+r.Intn(30))
	for i := range p {
		x := api.Ins{Op: 1 + r.Intn(30)}
		if r.Intn(2) == 0 || x.Op == api.OpHalt || x.Op == api.OpFail {
			x.Op = []int{api.OpPush, api.OpText, api.OpDup, api.OpWrite, api.OpCat, api.OpRead, api.OpJump}[r.Intn(7)]
		}
		switch x.Op {
		case api.OpPush:
			x.N = r.Intn(5) - 1
		case api.OpText:
			x.S = string("abc"[r.Intn(3)])
		case api.OpLoad, api.OpStore:
			x.N = r.Intn(3)
		case api.OpJump, api.OpZero, api.OpCall:
			x.N = r.Intn(len(p))
		}
		p[i] = x
	}
	return p
}

// P10.2
func TestSlices(t *testing.T) {
	r := rand.New(rand.NewSource(1))
	for range 3000 {
		p, view := random(r), seen(t)
		out, n, e := Run(p, view)
		m, _ := New(p, view)
		did := 0
		for !m.Done() {
			did += m.Step(r.Intn(1 + r.Intn(2000)))
			if did != m.Steps() {
				t.Fatalf("%v: %d steps, told are %d", p, did, m.Steps())
			}
		}
		if got, f := m.Result(); did != n || f != e || !same(got, out) {
			t.Fatalf("%v: %v, %d, %d steps instead of %v, %d, %d", p, got, f, did, out, e, n)
		}
		if e == api.ErrFuel && n != 4096 || n > 4096 {
			t.Fatalf("%v: %d behind %d steps", p, e, n)
		}
	}
}

// P10.3
func TestFuel(t *testing.T) {
	// The loop does two steps ahead of its turns, and seven in each but the last one, which doesn't jump: 4089 in 584 turns.
	loop := "push %d; store 0; x:; load 0; push 1; sub; dup; store 0; zero e; jump x; e:; %s"
	six := "push 1; pop; push 1; pop; push 1; pop; "
	for _, c := range []struct {
		turns int
		tail  string
		n     int
		want  api.Errno
	}{
		{584, "push 1; pop; halt", 4092, api.OK}, {584, six + "halt", 4096, api.OK}, {584, six + "halt; halt", 4096, api.OK},
		{584, six + "push 1", 4096, api.OK}, {584, six + "fail 1", 4096, api.ErrFail}, {584, six + "add", 4096, api.ErrStack},
		{584, six + "push 1; halt", 4096, api.ErrFuel}, {584, six + "push 1; fail 1", 4096, api.ErrFuel}, {585, "halt", 4096, api.ErrFuel},
		{5000, "halt", 4096, api.ErrFuel},
	} {
		p := program(t, fmt.Sprintf(loop, c.turns, c.tail))
		if _, n, e := Run(p, api.Tree{}); n != c.n || e != c.want {
			t.Errorf("%d, %s: %d steps, %d", c.turns, c.tail, n, e)
		}
	}
}

// P10.4
func TestTheView(t *testing.T) {
	r := rand.New(rand.NewSource(2))
	for range 3000 {
		p := slices.DeleteFunc(random(r), func(x api.Ins) bool { return x.Op == api.OpCount || x.Op == api.OpPath })
		for i := range p {
			p[i].N = min(p[i].N, len(p)-1)
		}
		out, n, e := Run(p, seen(t))
		more := makeTree(t, "0", "new", "a", "one", "b/c", "", "b/d", "other", "zz", "z")
		if got, k, f := Run(p, more); k != n || f != e || !same(got, out) {
			t.Fatalf("%v: %v, %d, %d instead of %v, %d, %d", p, got, k, f, out, n, e)
		}
	}
}

// P10.5
func TestNewMemory(t *testing.T) {
	p, view := program(t, `text "x"; text "a"; read; pop; write; halt`), seen(t)
	a, _ := New(p, view)
	b, _ := New(p, view)
	p[0].S, view.Files[0].Data = "changed", "changed"
	a.Step(9)
	if b.Steps() != 0 || b.Done() {
		t.Error("one machine has moved another one")
	}
	b.Step(9)
	want := makeTree(t, "x", "one")
	for _, m := range []*Machine{a, b} {
		for range 2 {
			out, e := m.Result()
			if e != api.OK || !same(out, want) {
				t.Errorf("%v, %d", out, e)
			}
			out.Files[0].Data = "changed"
		}
	}
	if p[0].S != "changed" || view.Files[0].Data != "changed" || len(p) != 6 || len(view.Files) != 2 {
		t.Error("what was handed in is changed")
	}
}
