package prov

import (
	"fmt"
	"math/rand"
	"slices"
	"strings"
	"testing"

	"sapling/api"
	"sapling/mix"
	"sapling/stock"
)

func pkg(name string, v int) api.Pkg { return api.Pkg{Name: name, Version: api.Version{v, 0, 0}} }

func key(n int) string { return mix.Text(uint64(n)) }

func by(tool api.Pkg, with ...api.Pkg) api.Choice { return api.Choice{Tool: tool, With: with} }

// show answers records as a text: each package's name, major number, rank.
func show(over func(func(api.Record) bool)) string {
	var out []string
	for r := range over {
		out = append(out, fmt.Sprint(r.Pkg.Name, r.Pkg.Version[0], ":", r.Rank))
	}
	return strings.Join(out, " ")
}

// sample has the chapter's example, and some more.
func sample(t *testing.T) *Book {
	t.Helper()
	b := New()
	cc := pkg("cc", 1)
	for i, e := range []api.Errno{
		b.Seed(cc, key(1)), b.Add(pkg("lib", 1), key(2), by(cc)), b.Add(pkg("app", 1), key(3), by(cc, pkg("lib", 1))), b.Seed(pkg("a", 1), key(4)),
		b.Add(pkg("z", 1), key(1), by(pkg("lib", 1), pkg("a", 1))), b.Add(pkg("top", 1), key(5), by(pkg("z", 1), pkg("app", 1), pkg("cc", 1))),
	} {
		if e != api.OK {
			t.Fatalf("%d: %d", i, e)
		}
	}
	return b
}

// P22.1
func TestExample(t *testing.T) {
	b := sample(t)
	for p, want := range map[api.Pkg]string{
		pkg("app", 1): "app1:2 lib1:1 cc1:0", pkg("cc", 1): "cc1:0", pkg("lib", 1): "lib1:1 cc1:0", pkg("z", 1): "z1:2 lib1:1 a1:0 cc1:0",
		pkg("top", 1): "top1:3 app1:2 z1:2 lib1:1 a1:0 cc1:0", pkg("no", 1): "", {}: "",
	} {
		if got := show(b.Audit(p)); got != want {
			t.Errorf("%v: %s", p, got)
		}
	}
	if got := show(b.All()); got != "cc1:0 lib1:1 app1:2 a1:0 z1:2 top1:3" || b.Len() != 6 {
		t.Errorf("%s", got)
	}
	r, ok := b.Get(pkg("app", 1))
	if !ok || r.Pkg != pkg("app", 1) || r.Out != key(3) || r.Rank != 2 || r.Choice.Tool != pkg("cc", 1) || !slices.Equal(r.Choice.With, []api.Pkg{pkg("lib", 1)}) {
		t.Errorf("%v", r)
	}
	if r, ok := b.Get(pkg("cc", 1)); !ok || r.Rank != 0 || r.Choice.Tool != (api.Pkg{}) || len(r.Choice.With) != 0 || r.Out != key(1) {
		t.Errorf("%v", r)
	}
	if r, ok := b.Get(pkg("cc", 2)); ok || r.Out != "" || r.Pkg.Name != "" {
		t.Errorf("%v", r)
	}
}

// P22.1
func TestErrors(t *testing.T) {
	b := sample(t)
	cc, none := by(pkg("cc", 1)), api.Choice{}
	full := New()
	for i := range 40 {
		if e := full.Seed(pkg("s", i), key(0)); e != api.OK {
			t.Fatal(i, e)
		}
	}
	for i, c := range []struct {
		b    *Book
		p    api.Pkg
		out  string
		seed bool
		c    api.Choice
		rank int
		want api.Errno
	}{
		{nil, api.Pkg{}, "", true, cc, 0, api.ErrNil}, {b, pkg("A", 1), key(1), true, none, 0, api.ErrArg}, {b, pkg("x", -1), key(1), false, cc, 0, api.ErrArg},
		{b, pkg("x", 1), "", true, none, 0, api.ErrArg}, {b, pkg("x", 1), "qaaaaaaaaaaaa", false, cc, 0, api.ErrArg}, {b, pkg("x", 1), key(1), true, cc, 0, api.ErrArg},
		{b, pkg("x", 1), key(1), true, api.Choice{With: []api.Pkg{pkg("cc", 1)}}, 0, api.ErrArg}, {b, pkg("cc", 1), key(1), true, cc, 0, api.ErrArg},
		{b, pkg("cc", 1), key(1), true, none, 0, api.ErrTwice}, {b, pkg("cc", 1), key(9), false, by(pkg("no", 1)), 0, api.ErrTwice}, {b, pkg("app", 1), key(9), true, none, 0, api.ErrTwice},
		{full, pkg("s", 1), key(0), true, none, 0, api.ErrTwice}, {full, pkg("x", 1), key(0), true, none, 0, api.ErrMany}, {full, pkg("x", 1), key(0), false, by(pkg("no", 1)), 0, api.ErrMany},
		{full, pkg("x", 1), "", false, none, 0, api.ErrArg}, {b, pkg("x", 1), key(1), false, none, 0, api.ErrNone}, {b, pkg("x", 1), key(1), false, by(pkg("no", 1)), 0, api.ErrNone},
		{b, pkg("x", 1), key(1), false, by(pkg("cc", 1), pkg("app", 1), pkg("no", 1)), 0, api.ErrNone}, {b, pkg("x", 1), key(1), false, by(pkg("x", 1)), 0, api.ErrNone},
		{b, pkg("x", 1), key(1), false, by(pkg("cc", 1), pkg("x", 1)), 0, api.ErrNone}, {b, pkg("x", 1), key(1), false, by(pkg("cc", 1)), 1, api.OK},
		{b, pkg("x", 1), key(1), false, by(pkg("app", 1), pkg("cc", 1)), 3, api.OK}, {b, pkg("x", 1), key(1), false, by(pkg("cc", 1), pkg("a", 1), pkg("top", 1)), 4, api.OK},
		{b, pkg("x", 1), key(1), true, none, 0, api.OK},
	} {
		before := c.b.Len()
		if rank, e := c.b.Try(c.p, c.out, c.seed, c.c); rank != c.rank || e != c.want || c.b.Len() != before {
			t.Errorf("%d: rank %d, %d instead of %d", i, rank, e, c.want)
		}
		if c.want == api.OK || c.seed && !empty(c.c) {
			continue
		}
		e := api.OK
		if c.seed {
			e = c.b.Seed(c.p, c.out)
		} else {
			e = c.b.Add(c.p, c.out, c.c)
		}
		if e != c.want || c.b.Len() != before {
			t.Errorf("%d: %d instead of %d", i, e, c.want)
		}
	}
	var no *Book
	if _, ok := no.Get(pkg("cc", 1)); ok || no.Len() != 0 || show(no.All()) != "" || show(no.Audit(pkg("cc", 1))) != "" || no.Seed(api.Pkg{}, "") != api.ErrNil || no.Add(api.Pkg{}, "", none) != api.ErrNil {
		t.Error("a nil book")
	}
}

// P22.1, P22.2
func TestDownToTheSeeds(t *testing.T) {
	r := rand.New(rand.NewSource(1))
	for range 200 {
		b := New()
		for i := range 45 {
			p := pkg(string("abcdef"[r.Intn(6)]), i)
			if r.Intn(4) == 0 || i == 0 {
				b.Seed(p, key(r.Intn(9)))
				continue
			}
			all := slices.Collect(b.All())
			c := by(all[r.Intn(len(all))].Pkg)
			for range r.Intn(4) {
				c.With = append(c.With, all[r.Intn(len(all))].Pkg)
			}
			b.Add(p, key(r.Intn(9)), c)
		}
		if b.Len() != 40 {
			t.Fatalf("%d records", b.Len())
		}
		for x := range b.All() {
			list := slices.Collect(b.Audit(x.Pkg))
			rank := map[api.Pkg]int{}
			for _, y := range list {
				rank[y.Pkg] = y.Rank
			}
			if list[0].Pkg != x.Pkg || len(rank) != len(list) || list[len(list)-1].Rank != 0 {
				t.Fatalf("%v: %v", x, list)
			}
			used := map[api.Pkg]int{x.Pkg: 1}
			for i, y := range list {
				if z, ok := b.Get(y.Pkg); !ok || fmt.Sprint(z) != fmt.Sprint(y) {
					t.Fatalf("%v: %v", x, y)
				}
				if i > 0 && (list[i-1].Rank < y.Rank || list[i-1].Rank == y.Rank && stock.Compare(list[i-1].Pkg, y.Pkg) >= 0) {
					t.Fatalf("%v: out of order: %v", x, list)
				}
				top := 0
				for _, p := range append(slices.Clone(y.Choice.With), y.Choice.Tool) {
					if p.Name != "" {
						n, ok := rank[p]
						if !ok || n >= y.Rank {
							t.Fatalf("%v: %v", x, y)
						}
						top, used[p] = max(top, n+1), 1
					}
				}
				if top != y.Rank || y.Rank == 0 != empty(y.Choice) {
					t.Fatalf("%v: %v", x, y)
				}
			}
			if len(used) != len(list) {
				t.Fatalf("%v: %v has what it doesn't come from", x, list)
			}
		}
	}
}

// P22.1, P22.3
func TestNewMemory(t *testing.T) {
	b := sample(t)
	with := append(make([]api.Pkg, 0, 4), pkg("cc", 1), pkg("lib", 1))
	b.Add(pkg("y", 1), key(1), api.Choice{Tool: pkg("cc", 1), With: with})
	all, audit := b.All(), b.Audit(pkg("y", 1))
	with[0].Name = "changed"
	b.Seed(pkg("later", 1), key(1))
	for range 2 {
		for r := range all {
			if len(r.Choice.With) > 0 {
				r.Choice.With[0].Name = "changed"
			}
		}
		for r := range audit {
			if len(r.Choice.With) > 0 {
				if r.Choice.With[0].Name != "cc" {
					t.Errorf("%v", r)
				}
				r.Choice.With[0].Name = "changed"
			}
		}
		r, _ := b.Get(pkg("y", 1))
		if r.Choice.With[0].Name != "cc" {
			t.Errorf("%v", r)
		}
		r.Choice.With[0].Name = "changed"
	}
	if got := show(all); got != "cc1:0 lib1:1 app1:2 a1:0 z1:2 top1:3 y1:2" {
		t.Errorf("%s", got)
	}
	count := 0
	for range audit {
		for range audit {
			if count++; count%2 == 0 {
				break
			}
		}
	}
	if count != 6 || with[:3][2].Name != "" {
		t.Errorf("within itself, and stopped: %d", count)
	}
}
