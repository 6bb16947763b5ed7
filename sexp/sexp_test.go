package sexp

import (
	"math/rand"
	"reflect"
	"slices"
	"strings"
	"testing"

	"sapling/api"
)

// deep answers so many lists within one another.
func deep(n int) api.Node {
	out := List()
	for range n - 1 {
		out = api.Node{List: []api.Node{out}}
	}
	return out
}

// random answers some node that can be.
func random(r *rand.Rand, within int) api.Node {
	if within > 4 || r.Intn(3) == 0 {
		return Atom(strings.Repeat(string(rune('('+r.Intn(20))), r.Intn(12)))
	}
	out := api.Node{}
	for range r.Intn(4) {
		out.List = append(out.List, random(r, within+1))
	}
	return out
}

// same answers whether two nodes are the same, empty lists and nil ones too.
func same(a, b api.Node) bool {
	return a.Leaf == b.Leaf && a.Atom == b.Atom && slices.EqualFunc(a.List, b.List, same)
}

// P1.1
func TestAtomAndList(t *testing.T) {
	if n := Atom("hi"); !n.Leaf || n.Atom != "hi" || len(n.List) != 0 {
		t.Errorf("%+v", n)
	}
	if n := List(); n.Leaf || n.Atom != "" || len(n.List) != 0 {
		t.Errorf("%+v", n)
	}
	if n := List(Atom("a"), List(Atom("b"))); n.Leaf || len(n.List) != 2 || n.List[1].List[0].Atom != "b" {
		t.Errorf("%+v", n)
	}
}

// P1.1
func TestEncode(t *testing.T) {
	for _, c := range []struct {
		n api.Node
		s string
		e api.Errno
	}{
		{List(Atom("hi"), Atom("")), "(2:hi0:)", api.OK},
		{List(), "()", api.OK},
		{Atom(""), "0:", api.OK},
		{Atom(strings.Repeat("x", 10)), "10:xxxxxxxxxx", api.OK},
		{api.Node{Atom: "x"}, "", api.ErrArg},
		{api.Node{Leaf: true, List: []api.Node{Atom("")}}, "", api.ErrArg},
		{List(Atom("a"), api.Node{Atom: "x"}), "", api.ErrArg},
		{api.Node{Leaf: true, List: []api.Node{}}, "0:", api.OK},
		{deep(32), strings.Repeat("(", 32) + strings.Repeat(")", 32), api.OK},
		{deep(33), "", api.ErrDeep},
		{Atom(strings.Repeat("x", 65530)), "65530:" + strings.Repeat("x", 65530), api.OK},
		{Atom(strings.Repeat("x", 65531)), "", api.ErrLong},
		{List(Atom(strings.Repeat("x", 65528))), "(65528:" + strings.Repeat("x", 65528) + ")", api.OK},
		{List(Atom(strings.Repeat("x", 65529))), "", api.ErrLong},
	} {
		if s, e := Encode(c.n); s != c.s || e != c.e {
			t.Errorf("%.40q, %d instead of %.40q, %d", s, e, c.s, c.e)
		}
	}
}

// P1.1
func TestEncodeFirstFault(t *testing.T) {
	long, bad := Atom(strings.Repeat("x", 70000)), api.Node{Atom: "x"}
	for _, c := range []struct {
		n api.Node
		e api.Errno
	}{
		{List(long, bad), api.ErrLong},
		{List(bad, long), api.ErrArg},
		{List(deep(32), bad, long), api.ErrDeep},
		{List(long, deep(32)), api.ErrLong},
		{List(bad, deep(32)), api.ErrArg},
	} {
		if s, e := Encode(c.n); s != "" || e != c.e {
			t.Errorf("%.40q, %d instead of %d", s, e, c.e)
		}
	}
	within := api.Node{Atom: "x"}
	for range 32 {
		within = List(within)
	}
	if _, e := Encode(within); e != api.ErrArg {
		t.Errorf("a node that can't be, too deep: %d", e)
	}
	if _, e := Encode(deep(60000)); e != api.ErrDeep {
		t.Errorf("very deep: %d", e)
	}
}

// P1.1
func TestDecode(t *testing.T) {
	for s, want := range map[string]api.Node{
		"0:": Atom(""), "()": List(), "(2:hi0:)": List(Atom("hi"), Atom("")),
		"3:(1:": Atom("(1:"), "(()(1::))": List(List(), List(Atom(":"))),
	} {
		if n, e := Decode(s); e != api.OK || !same(n, want) {
			t.Errorf("%q: %+v, %d", s, n, e)
		}
	}
	open, shut := strings.Repeat("(", 32), strings.Repeat(")", 32)
	for s, want := range map[string]api.Errno{
		"": api.ErrForm, "02:hi": api.ErrForm, "2:h": api.ErrForm, "()x": api.ErrForm, "())": api.ErrForm,
		"(": api.ErrForm, ")": api.ErrForm, ":": api.ErrForm, "00:": api.ErrForm, "-1:": api.ErrForm, "+1:a": api.ErrForm,
		"1": api.ErrForm, "a": api.ErrForm, "(1:a": api.ErrForm, "1:a1:b": api.ErrForm, "( )": api.ErrForm,
		"99999999999999999999:a": api.ErrForm, "(1:a]": api.ErrForm,
		open + shut: api.OK, "(" + open + shut + ")": api.ErrDeep, open + "(": api.ErrDeep, open: api.ErrForm,
		"x" + open + "(":           api.ErrForm,
		"65530:" + open:            api.ErrForm,
		strings.Repeat("(", 65536): api.ErrDeep, strings.Repeat("(", 65537): api.ErrLong,
	} {
		n, e := Decode(s)
		if e != want || e != api.OK && !same(n, api.Node{}) {
			t.Errorf("%.40q: %d instead of %d", s, e, want)
		}
	}
	whole := "65530:" + strings.Repeat("x", 65530)
	if n, e := Decode(whole); e != api.OK || len(n.Atom) != 65530 {
		t.Errorf("just so long: %d", e)
	}
	if _, e := Decode("65531:" + strings.Repeat("x", 65531)); e != api.ErrLong {
		t.Errorf("too long: %d", e)
	}
}

// P1.2
func TestThereAndBack(t *testing.T) {
	r := rand.New(rand.NewSource(1))
	for range 2000 {
		n := random(r, 0)
		s, e := Encode(n)
		if e != api.OK {
			t.Fatalf("%+v: %d", n, e)
		}
		if m, e := Decode(s); e != api.OK || !same(m, n) {
			t.Fatalf("%q: %+v, %d", s, m, e)
		}
		b := []byte(s)
		b[r.Intn(len(b))] = "()0123:ab"[r.Intn(9)]
		if m, e := Decode(string(b)); e == api.OK {
			if s, _ := Encode(m); s != string(b) {
				t.Fatalf("%q is written as %q", b, s)
			}
		}
	}
}

// P1.3
func TestUnlikeNodesHaveUnlikeBytes(t *testing.T) {
	r := rand.New(rand.NewSource(2))
	seen := map[string]api.Node{}
	for range 5000 {
		n := random(r, 2)
		s, _ := Encode(n)
		if m, ok := seen[s]; ok && !same(m, n) {
			t.Fatalf("%q: %+v and %+v", s, m, n)
		}
		seen[s] = n
	}
	a, _ := Encode(List(Atom("ab"), Atom("")))
	b, _ := Encode(List(Atom("a"), Atom("b")))
	c, _ := Encode(List(List(Atom("ab")), Atom("")))
	if a == b || a == c || b == c {
		t.Error("unlike nodes, the same bytes")
	}
}

// P1.4
func TestNewMemory(t *testing.T) {
	inner := []api.Node{Atom("a"), Atom("b")}
	kids := make([]api.Node, 2, 4)
	kids[0], kids[1] = api.Node{List: inner}, Atom("c")
	n := List(kids...)
	s, _ := Encode(n)
	over := Leaves(api.Node{List: kids})
	if !reflect.DeepEqual(kids[:4], []api.Node{{List: inner}, Atom("c"), {}, {}}) {
		t.Error("the spare room was written to")
	}
	inner[0], kids[1] = Atom("x"), Atom("y")
	if m, _ := Encode(n); m != s {
		t.Errorf("List kept what was handed in: %q", m)
	}
	if got := slices.Collect(over); !slices.Equal(got, []string{"a", "b", "c"}) {
		t.Errorf("Leaves kept what was handed in: %q", got)
	}
	one, two := List(n, n), api.Node{}
	one.List[0].List[0].List[0] = Atom("z")
	if two = one.List[1]; two.List[0].List[0].Atom != "a" {
		t.Error("two lists of one answer share memory")
	}
	m, _ := Decode(s)
	m.List[0].List[0] = Atom("q")
	if again, _ := Decode(s); again.List[0].List[0].Atom != "a" {
		t.Error("two answers share memory")
	}
}

// P1.1, P1.4
func TestLeaves(t *testing.T) {
	n := List(Atom("hi"), List(), List(Atom(""), List(Atom("(")), Atom("z")))
	over := Leaves(n)
	for range 2 {
		if got := slices.Collect(over); !slices.Equal(got, []string{"hi", "", "(", "z"}) {
			t.Errorf("%q", got)
		}
	}
	for stop := range 4 {
		count := 0
		for range over {
			if count++; count > stop {
				break
			}
		}
		if count != stop+1 {
			t.Errorf("stopped behind %d: %d", stop, count)
		}
	}
	within := 0
	for range over {
		for range over {
			within++
		}
	}
	if within != 16 {
		t.Errorf("within itself: %d", within)
	}
	bad := api.Node{Leaf: true, Atom: "a", List: []api.Node{Atom("b")}}
	if got := slices.Collect(Leaves(bad)); !slices.Equal(got, []string{"a"}) {
		t.Errorf("a leaf with a list: %q", got)
	}
	bad = api.Node{Atom: "a", List: []api.Node{Atom("b"), Atom("c")}}
	if got := slices.Collect(Leaves(bad)); !slices.Equal(got, []string{"b", "c"}) {
		t.Errorf("a list with an atom: %q", got)
	}
	if got := slices.Collect(Leaves(api.Node{})); len(got) != 0 {
		t.Errorf("nothing: %q", got)
	}
	if got := slices.Collect(Leaves(deep(60000))); len(got) != 0 {
		t.Errorf("very deep: %q", got)
	}
}
