package view

import (
	"fmt"
	"math/rand"
	"slices"
	"strings"
	"testing"

	"sapling/api"
	"sapling/tree"
)

// files answers a tree from pairs of a path and its bytes; whether it can be isn't asked.
func files(pairs ...string) api.Tree {
	var t api.Tree
	for i := 0; i < len(pairs); i += 2 {
		t.Files = append(t.Files, api.File{Path: pairs[i], Data: pairs[i+1]})
	}
	return t
}

func many(n int) api.Tree {
	var t api.Tree
	for i := range n {
		t.Files = append(t.Files, api.File{Path: fmt.Sprintf("f%02d", i)})
	}
	return t
}

func same(a, b api.Tree) bool { return slices.Equal(a.Files, b.Files) }

func at(dir string, t api.Tree) api.Mount { return api.Mount{Dir: dir, Tree: t} }

// P11.1
func TestBuild(t *testing.T) {
	got, e := Build([]api.Mount{at("in/tool", files("b", "y")), at("in/lib", files("a", "x")), at("x", files("p/q", "z")), at("in/none", files())})
	if e != api.OK || !same(got, files("in/lib/a", "x", "in/tool/b", "y", "x/p/q", "z")) {
		t.Errorf("%v, %d", got, e)
	}
	if got, e := Build(nil); e != api.OK || len(got.Files) != 0 {
		t.Errorf("%v, %d", got, e)
	}
}

// P11.1
func TestFaults(t *testing.T) {
	bad := files("b", "", "a", "")
	for i, c := range []struct {
		list []api.Mount
		want api.Errno
	}{
		{[]api.Mount{at("", files())}, api.ErrPath}, {[]api.Mount{at("A", bad)}, api.ErrPath}, {[]api.Mount{at("a/", files())}, api.ErrPath},
		{[]api.Mount{at("in", files()), at("in", files())}, api.ErrClash}, {[]api.Mount{at("in", bad), at("in/lib", bad)}, api.ErrClash},
		{[]api.Mount{at("in/lib", files()), at("x", files()), at("in", files())}, api.ErrClash}, {[]api.Mount{at("in", files()), at("inn", files())}, api.OK},
		{[]api.Mount{at("in", files()), at("in", files()), at("A", files())}, api.ErrClash}, {[]api.Mount{at("in", bad), at("A", files())}, api.ErrPath},
		{[]api.Mount{at("in", bad), at("x", files())}, api.ErrArg}, {[]api.Mount{at("in", files()), at("x", bad)}, api.ErrArg},
		{[]api.Mount{at("a", many(32))}, api.OK}, {[]api.Mount{at("a", many(32)), at("b", many(1))}, api.ErrMany}, {[]api.Mount{at("a", many(33))}, api.ErrArg},
		{[]api.Mount{at("a", files("1/2/3/4/5/6/7/8", ""))}, api.ErrPath}, {[]api.Mount{at("a", files("1/2/3/4/5/6/7", ""))}, api.OK},
		{[]api.Mount{at("a", many(32)), at("b", files("1/2/3/4/5/6/7/8", ""))}, api.ErrPath},
		{[]api.Mount{at("a", many(32)), at("b", many(1)), at("c", bad)}, api.ErrMany}, {[]api.Mount{at(strings.Repeat("a", 33), files())}, api.ErrPath},
	} {
		if got, e := Build(c.list); e != c.want || e != api.OK && len(got.Files) != 0 {
			t.Errorf("%d: %v, %d instead of %d", i, got, e, c.want)
		}
	}
}

// P11.2, P11.3
func TestCutOfTheView(t *testing.T) {
	r := rand.New(rand.NewSource(1))
	for range 1000 {
		var list []api.Mount
		var dirs []string
		for i := range r.Intn(5) {
			dir := fmt.Sprintf("%s/d%d", []string{"in", "in/x", "a-b"}[r.Intn(3)], i)
			list = append(list, at(dir, many(r.Intn(7))))
			dirs = append(dirs, dir)
		}
		all, e := Build(list)
		if e != api.OK {
			t.Fatalf("%v: %d", list, e)
		}
		for _, m := range list {
			if got, e := tree.Cut(all, m.Dir); e != api.OK || !same(got, m.Tree) {
				t.Fatalf("%s: %v, %d", m.Dir, got, e)
			}
		}
		if out := slices.Collect(Outside(all, dirs)); len(out) != 0 {
			t.Fatalf("outside: %q", out)
		}
		r.Shuffle(len(list), func(i, j int) { list[i], list[j] = list[j], list[i] })
		if again, e := Build(list); e != api.OK || !same(again, all) {
			t.Fatalf("in another order: %v, %d", again, e)
		}
	}
}

// P11.1, P11.4
func TestOutside(t *testing.T) {
	all, dirs := files("a", "", "in/b", "", "in/c/d", "", "inn/e", "", "z", ""), []string{"in", "z", "A", "in/"}
	over := Outside(all, dirs)
	for range 2 {
		if got := slices.Collect(over); !slices.Equal(got, []string{"a", "inn/e", "z"}) {
			t.Errorf("%q", got)
		}
	}
	count := 0
	for range over {
		for p := range over {
			if count++; p == "inn/e" {
				break
			}
		}
	}
	if count != 6 {
		t.Errorf("within itself, and stopped: %d", count)
	}
	all.Files[0].Path, dirs[0] = "changed", "nowhere"
	if got := slices.Collect(over); !slices.Equal(got, []string{"a", "inn/e", "z"}) {
		t.Errorf("Outside kept what was handed in: %q", got)
	}
	if got := slices.Collect(Outside(files("a", "", "b/c", ""), []string{""})); len(got) != 0 {
		t.Errorf("all stand behind no bytes: %q", got)
	}
	if got := slices.Collect(Outside(files("b", "", "A", "", "a/x", ""), []string{"a", ""})); !slices.Equal(got, []string{"A"}) {
		t.Errorf("a tree that can't be: %q", got)
	}
	if got := slices.Collect(Outside(files("b", "", "a", ""), nil)); !slices.Equal(got, []string{"b", "a"}) {
		t.Errorf("no places: %q", got)
	}
}

// P11.4
func TestNewMemory(t *testing.T) {
	list := append(make([]api.Mount, 0, 4), at("a", files("x", "1")), at("b", files("y", "2")))
	got, _ := Build(list)
	again, _ := Build(list[:1])
	got.Files[0].Data, again.Files[0].Data = "changed", "changed"
	if !same(list[0].Tree, files("x", "1")) || !same(list[1].Tree, files("y", "2")) || list[:3][2].Dir != "" {
		t.Errorf("what was handed in is changed: %v", list[:3])
	}
}
