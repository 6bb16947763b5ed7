package plan

import (
	"fmt"
	"math"
	"math/rand"
	"slices"
	"strings"
	"testing"

	"sapling/api"
	"sapling/stage"
	"sapling/stock"
)

func pkg(name string, v int) api.Pkg { return api.Pkg{Name: name, Version: api.Version{v, 0, 0}} }

// dep answers an input of the versions from one on and below another one.
func dep(name string, from, to int) api.Dep {
	return api.Dep{Name: name, Range: []api.Gap{{Lo: from * 1000000, Hi: to * 1000000}}}
}

// chain is the seed cc 1, cc 2 by cc below 2, cc 3 by cc from 2 on; x by x; y, which needs x; lib, and app, which needs it.
func chain(t *testing.T) *stock.Stock {
	t.Helper()
	s := stock.New()
	s.Seed(pkg("cc", 1))
	s.Seed(pkg("idle", 1))
	for _, x := range []api.Recipe{
		{Pkg: pkg("cc", 2), Tool: dep("cc", 0, 2)}, {Pkg: pkg("cc", 3), Tool: dep("cc", 2, 9)}, {Pkg: pkg("x", 1), Tool: dep("x", 0, 9)},
		{Pkg: pkg("y", 1), Tool: dep("cc", 0, 9), Build: []api.Dep{dep("x", 0, 9)}}, {Pkg: pkg("lib", 1), Tool: dep("cc", 0, 2), Run: []api.Dep{dep("rt", 0, 9)}},
		{Pkg: pkg("rt", 1), Tool: dep("cc", 3, 9)}, {Pkg: pkg("app", 1), Tool: dep("cc", 0, 3), Build: []api.Dep{dep("lib", 0, 9)}},
	} {
		if e := s.Add(x); e != api.OK {
			t.Fatalf("%v: %d", x, e)
		}
	}
	return s
}

func show(list []api.Entry) string {
	var out []string
	for _, x := range list {
		out = append(out, fmt.Sprint(x.Pkg.Name, x.Pkg.Version[0], ":", x.Stage))
	}
	return strings.Join(out, " ")
}

// P17.1
func TestMakeAndNeeds(t *testing.T) {
	s := chain(t)
	all, e := stage.Fix(s, 100)
	if e != api.OK {
		t.Fatal(e)
	}
	for p, want := range map[api.Pkg]string{
		pkg("cc", 3): "cc1:0 cc2:1 cc3:2", pkg("cc", 1): "cc1:0", pkg("cc", 2): "cc1:0 cc2:1", pkg("rt", 1): "cc1:0 cc2:1 cc3:2 rt1:3",
		pkg("app", 1): "cc1:0 cc2:1 lib1:1 cc3:2 rt1:3 app1:4", pkg("lib", 1): "cc1:0 lib1:1",
	} {
		got, e := Make(s, p, 100)
		if e != api.OK || show(got.Entries) != want || len(got.Less) != 0 {
			t.Errorf("%v: %s, %v, %d", p, show(got.Entries), got.Less, e)
		}
		needed, ok := Needs(all, p)
		if !ok || fmt.Sprint(needed) != fmt.Sprint(got.Entries) {
			t.Errorf("%v: %v, %t", p, needed, ok)
		}
	}
	for _, p := range []api.Pkg{pkg("x", 1), pkg("y", 1)} {
		got, e := Make(s, p, 100)
		if e != api.ErrNoBootstrap || len(got.Entries) != 0 || !slices.Equal(got.Less, []api.Pkg{pkg("x", 1), pkg("y", 1)}) {
			t.Errorf("%v: %v, %d", p, got, e)
		}
	}
	for _, p := range []api.Pkg{pkg("x", 1), pkg("no", 1), pkg("cc", 9), {}, pkg("cc", -1)} {
		if got, ok := Needs(all, p); ok || len(got) != 0 {
			t.Errorf("%v: %v", p, got)
		}
	}
	if got, ok := Needs(nil, pkg("cc", 1)); ok || len(got) != 0 {
		t.Errorf("nil stages: %v", got)
	}
}

// P17.1
func TestErrors(t *testing.T) {
	s := chain(t)
	all, _ := stage.Fix(s, 100)
	for i, c := range []struct {
		s    *stock.Stock
		p    api.Pkg
		left int
		want api.Errno
	}{
		{nil, pkg("cc", 1), 100, api.ErrNil}, {nil, api.Pkg{}, 0, api.ErrNil}, {s, pkg("no", 1), 0, api.ErrNone}, {s, api.Pkg{}, 100, api.ErrNone},
		{s, pkg("cc", 1), 0, api.ErrBudget}, {s, pkg("x", 1), all.Made() - 1, api.ErrBudget}, {s, pkg("x", 1), all.Made(), api.ErrNoBootstrap},
		{s, pkg("cc", 3), all.Made(), api.OK}, {s, pkg("cc", 3), all.Made() - 1, api.ErrBudget}, {s, pkg("cc", 1), math.MinInt, api.ErrBudget},
	} {
		got, e := Make(c.s, c.p, c.left)
		if e != c.want || e != api.OK && len(got.Entries) != 0 || e != api.ErrNoBootstrap && len(got.Less) != 0 {
			t.Errorf("%d: %v, %d instead of %d", i, got, e, c.want)
		}
	}
}

// random answers a stock whose packages need one another in many ways.
func random(r *rand.Rand) *stock.Stock {
	s := stock.New()
	names := []string{"a", "b", "c", "d", "e"}
	input := func() api.Dep {
		from := r.Intn(3)
		return dep(names[r.Intn(5)], from, from+1+r.Intn(3))
	}
	for _, name := range names {
		for v := range 3 {
			x := api.Recipe{Pkg: pkg(name, v), Tool: input()}
			if r.Intn(2) == 0 {
				x.Build = append(x.Build, input())
			}
			if r.Intn(2) == 0 {
				x.Run = append(x.Run, input())
			}
			if r.Intn(5) == 0 {
				s.Seed(x.Pkg)
			} else {
				s.Add(x)
			}
		}
	}
	return s
}

// reach answers all that a package needs, by going from choice to choice.
func reach(t *stage.Stages, p api.Pkg, got map[api.Pkg]int) {
	x, _ := t.Get(p)
	got[p] = x.Stage
	if x.Stage == 0 {
		return
	}
	for _, q := range append(slices.Clone(x.Choice.With), x.Choice.Tool) {
		if _, ok := got[q]; !ok {
			reach(t, q, got)
		}
	}
}

// P17.2, P17.3
func TestWholeAndWhyNot(t *testing.T) {
	r := rand.New(rand.NewSource(1))
	plans, refused := 0, 0
	for range 300 {
		s := random(r)
		all, e := stage.Fix(s, 1000000)
		if e != api.OK {
			t.Fatal(e)
		}
		for p := range s.All() {
			got, e := Make(s, p, 1000000)
			if e == api.ErrNoBootstrap {
				refused++
				if !slices.Contains(got.Less, p) || slices.ContainsFunc(got.Less, s.IsSeed) || len(got.Entries) > 0 || !slices.Equal(got.Less, all.Less()) {
					t.Fatalf("%v: %v", p, got)
				}
				continue
			}
			plans++
			want := map[api.Pkg]int{}
			reach(all, p, want)
			if e != api.OK || len(got.Entries) != len(want) || len(got.Less) > 0 {
				t.Fatalf("%v: %v, %d", p, got, e)
			}
			for i, x := range got.Entries {
				n, ok := want[x.Pkg]
				y, _ := all.Get(x.Pkg)
				if !ok || n != x.Stage || fmt.Sprint(x) != fmt.Sprint(y) {
					t.Fatalf("%v: %v", p, x)
				}
				if i > 0 && (got.Entries[i-1].Stage > x.Stage || got.Entries[i-1].Stage == x.Stage && stock.Compare(got.Entries[i-1].Pkg, x.Pkg) >= 0) {
					t.Fatalf("%v: %s: out of order", p, show(got.Entries))
				}
				for _, q := range x.Choice.With {
					if want[q] >= x.Stage {
						t.Fatalf("%v needs %v", x, q)
					}
				}
			}
		}
	}
	if plans < 500 || refused < 500 {
		t.Errorf("only %d plans, %d refused", plans, refused)
	}
}

// P17.4
func TestNewMemory(t *testing.T) {
	s := chain(t)
	all, _ := stage.Fix(s, 100)
	before, _ := Needs(all, pkg("app", 1))
	want := fmt.Sprint(before)
	for _, x := range before {
		for i := range x.Choice.With {
			x.Choice.With[i].Name = "changed"
		}
	}
	if got, _ := Needs(all, pkg("app", 1)); fmt.Sprint(got) != want {
		t.Errorf("%v", got)
	}
	one, _ := Make(s, pkg("x", 1), 100)
	one.Less[0].Name = "changed"
	if two, _ := Make(s, pkg("x", 1), 100); two.Less[0].Name != "x" {
		t.Errorf("%v", two)
	}
	if got := slices.Collect(s.All()); len(got) != 9 {
		t.Errorf("%v", got)
	}
}
