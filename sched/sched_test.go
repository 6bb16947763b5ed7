package sched

import (
	"fmt"
	"math/rand"
	"slices"
	"strings"
	"testing"

	"sapling/api"
	"sapling/asm"
	"sapling/vm"
)

func pkg(name string, v int) api.Pkg { return api.Pkg{Name: name, Version: api.Version{v, 0, 0}} }

// program assembles lines, parted by "; " here.
func program(t *testing.T, s string) []api.Ins {
	t.Helper()
	p, _, e := asm.Assemble(strings.ReplaceAll(s, "; ", "\n"))
	if e != api.OK {
		t.Fatalf("%s: %d", s, e)
	}
	return p
}

func same(a, b api.Tree) bool { return slices.Equal(a.Files, b.Files) }

// show answers what is under way as a text.
func show(s *Sched) string {
	var out []string
	for p, n := range s.All() {
		out = append(out, fmt.Sprint(p.Name, p.Version[0], ":", n))
	}
	return strings.Join(out, " ")
}

// P23.1
func TestExample(t *testing.T) {
	s, a, halt := New(), pkg("a", 1), program(t, "halt")
	if e := s.Start(a, halt, api.Tree{}); e != api.OK || !s.Has(a) || s.Starts(a) != 1 || show(s) != "a1:0" {
		t.Errorf("%d, %s", e, show(s))
	}
	if _, _, e := s.Take(a); e != api.ErrState {
		t.Errorf("%d", e)
	}
	if n, done, e := s.Step(a, 0); n != 0 || done || e != api.OK {
		t.Errorf("%d, %t, %d", n, done, e)
	}
	if n, done, e := s.Step(a, -5); n != 0 || done || e != api.OK {
		t.Errorf("%d, %t, %d", n, done, e)
	}
	if n, done, e := s.Step(a, 5); n != 1 || !done || e != api.OK || show(s) != "a1:1" {
		t.Errorf("%d, %t, %d", n, done, e)
	}
	if n, done, e := s.Step(a, 5); n != 0 || !done || e != api.OK || !s.Has(a) {
		t.Errorf("%d, %t, %d", n, done, e)
	}
	if out, e, f := s.Take(a); len(out.Files) != 0 || e != api.OK || f != api.OK || s.Has(a) || show(s) != "" {
		t.Errorf("%v, %d, %d", out, e, f)
	}
	if e := s.Start(a, halt, api.Tree{}); e != api.OK || s.Starts(a) != 2 || s.Starts(pkg("a", 2)) != 0 {
		t.Errorf("%d, %d starts", e, s.Starts(a))
	}
}

// P23.1
func TestErrors(t *testing.T) {
	var none *Sched
	halt, bad, a := program(t, "halt"), api.Tree{Files: []api.File{{Path: "A"}}}, pkg("a", 1)
	n, done, e := none.Step(a, 5)
	out, f, g := none.Take(a)
	if none.Start(a, nil, bad) != api.ErrNil || n != 0 || done || e != api.ErrNil || len(out.Files) != 0 || f != api.OK || g != api.ErrNil || none.Has(a) || none.Starts(a) != 0 || show(none) != "" {
		t.Error("a nil one")
	}
	s := New()
	n, done, e = s.Step(a, 5)
	out, f, g = s.Take(a)
	if n != 0 || done || e != api.ErrNone || len(out.Files) != 0 || f != api.OK || g != api.ErrNone {
		t.Error("nothing is under way")
	}
	for i, want := range []struct {
		prog []api.Ins
		view api.Tree
		e    api.Errno
	}{{nil, bad, api.ErrMany}, {make([]api.Ins, 1), bad, api.ErrCode}, {halt, bad, api.ErrArg}} {
		if e := s.Start(a, want.prog, want.view); e != want.e || s.Has(a) || s.Starts(a) != 0 {
			t.Errorf("%d: %d", i, e)
		}
	}
	for i := range 8 {
		if e := s.Start(pkg("s", i), halt, api.Tree{}); e != api.OK {
			t.Errorf("%d: %d", i, e)
		}
	}
	if s.Start(pkg("s", 3), nil, bad) != api.ErrTwice || s.Start(a, nil, bad) != api.ErrMany || s.Start(a, halt, api.Tree{}) != api.ErrMany || s.Starts(pkg("s", 3)) != 1 || s.Starts(a) != 0 {
		t.Error("too many")
	}
	s.Step(pkg("s", 3), 9)
	if s.Start(a, halt, api.Tree{}) != api.ErrMany {
		t.Error("one that is done is under way until it is taken")
	}
	s.Take(pkg("s", 3))
	if s.Start(a, halt, api.Tree{}) != api.OK || show(s) != "a1:0 s0:0 s1:0 s2:0 s4:0 s5:0 s6:0 s7:0" {
		t.Errorf("%s", show(s))
	}
	odd := api.Pkg{Name: "/ what?", Version: api.Version{-1, 5000, 0}}
	s = New()
	if s.Start(odd, program(t, "push 1; push 0; div"), api.Tree{}) != api.OK || s.Start(api.Pkg{}, halt, api.Tree{}) != api.OK || !s.Has(odd) || !s.Has(api.Pkg{}) {
		t.Error("any package will do")
	}
	s.Step(odd, 9)
	if out, e, f := s.Take(odd); len(out.Files) != 0 || e != api.ErrDiv || f != api.OK || s.Has(odd) {
		t.Errorf("%v, %d, %d", out, e, f)
	}
}

// P23.1
func TestAllAsItBegan(t *testing.T) {
	s, p := New(), program(t, "push 1; push 2; push 3; push 4; push 5")
	over := s.All()
	for _, x := range []api.Pkg{pkg("b", 1), pkg("a", 10), pkg("a", 9)} {
		s.Start(x, p, api.Tree{})
	}
	s.Step(pkg("a", 10), 2)
	for range 2 {
		got := ""
		for x, n := range over {
			got += fmt.Sprint(x.Name, x.Version[0], ":", n, " ")
			s.Step(pkg("b", 1), 9)
			s.Take(pkg("b", 1))
			s.Start(pkg("0", 1), p, api.Tree{})
		}
		if got != "a9:0 a10:2 b1:0 " && got != "01:0 a9:0 a10:2 " {
			t.Errorf("%s", got)
		}
	}
	count := 0
	for range over {
		for range over {
			count++
			break
		}
	}
	if count != 3 {
		t.Errorf("within itself, and stopped: %d", count)
	}
}

// P23.1, P23.2
func TestSlices(t *testing.T) {
	r := rand.New(rand.NewSource(1))
	view := api.Tree{Files: []api.File{{Path: "a", Data: "x"}, {Path: "n", Data: "7"}}}
	progs := [][]api.Ins{
		program(t, `text "a"; dup; read; pop; write`), program(t, "x:; jump x"), program(t, "push 1; push 0; div"),
		program(t, `push 100; store 0; x:; load 0; push 1; sub; dup; store 0; zero e; jump x; e:; text "end"; load 0; str; write`),
		program(t, `text "A"; dup; write`), program(t, "halt"),
	}
	for range 60 {
		s, model := New(), map[api.Pkg]int{}
		ran, starts := map[api.Pkg]int{}, map[api.Pkg]int{}
		for range 200 {
			p, which := pkg(string("abcdefghij"[r.Intn(10)]), 1), r.Intn(len(progs))
			if r.Intn(4) == 0 {
				_, has := model[p]
				e := s.Start(p, progs[which], view)
				if has != (e == api.ErrTwice) || e == api.ErrMany != (!has && len(model) == 8) {
					t.Fatalf("%v: %d", p, e)
				}
				if e == api.OK {
					model[p], ran[p] = which, 0
					starts[p]++
				}
			}
			did, done, e := s.Step(p, r.Intn(1500)-1)
			at, has := model[p]
			if s.Has(p) != has || has != (e == api.OK) || s.Starts(p) != starts[p] {
				t.Fatalf("%v: %d", p, e)
			}
			ran[p] += did
			out, got, f := s.Take(p)
			if !has {
				continue
			}
			if done != (f == api.OK) || !done && (f != api.ErrState || len(out.Files) > 0 || got != api.OK) {
				t.Fatalf("%v: %t, %d", p, done, f)
			}
			if done {
				want, steps, e := vm.Run(progs[at], view)
				if !same(out, want) || got != e || ran[p] != steps {
					t.Fatalf("%v: %v, %d, %d steps instead of %v, %d, %d", p, out, got, ran[p], want, e, steps)
				}
				delete(model, p)
			}
		}
	}
}

// P23.3
func TestNewMemory(t *testing.T) {
	s, p, view := New(), program(t, `text "x"; text "a"; read; pop; write`), api.Tree{Files: []api.File{{Path: "a", Data: "one"}}}
	s.Start(pkg("a", 1), p, view)
	s.Start(pkg("b", 1), p, view)
	p[0].S, view.Files[0].Data = "changed", "changed"
	for _, x := range []api.Pkg{pkg("a", 1), pkg("b", 1)} {
		s.Step(x, 9)
		out, e, f := s.Take(x)
		if !same(out, api.Tree{Files: []api.File{{Path: "x", Data: "one"}}}) || e != api.OK || f != api.OK {
			t.Errorf("%v, %d, %d", out, e, f)
		}
	}
}
