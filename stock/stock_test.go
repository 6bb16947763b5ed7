package stock

import (
	"fmt"
	"math/rand"
	"reflect"
	"slices"
	"strings"
	"testing"

	"sapling/api"
	"sapling/version"
)

func pkg(name string, a, b, c int) api.Pkg { return api.Pkg{Name: name, Version: api.Version{a, b, c}} }

var all = []api.Gap{{Lo: 0, Hi: version.All}}

func dep(name string) api.Dep { return api.Dep{Name: name, Range: slices.Clone(all)} }

// made answers a recipe with some inputs.
func made(p api.Pkg, build ...string) api.Recipe {
	x := api.Recipe{Pkg: p, Tool: dep("cc")}
	for _, name := range build {
		x.Build = append(x.Build, dep(name))
	}
	return x
}

func inputs(n int) []api.Dep {
	var out []api.Dep
	for i := range n {
		out = append(out, dep(fmt.Sprint("n", i)))
	}
	return out
}

// P14.1
func TestGood(t *testing.T) {
	good := api.Recipe{Pkg: pkg("a", 1, 2, 3), Tool: dep("cc"), Build: []api.Dep{dep("x"), dep("y")}, Run: []api.Dep{dep("x"), {Name: "cc"}}}
	if !Good(good) {
		t.Error("a good one")
	}
	for i, change := range []func(x *api.Recipe){
		func(x *api.Recipe) { x.Pkg.Name = "A" }, func(x *api.Recipe) { x.Pkg.Name = "a/b" }, func(x *api.Recipe) { x.Pkg.Version[1] = 1000 },
		func(x *api.Recipe) { x.Pkg.Version[2] = -1 }, func(x *api.Recipe) { x.Tool.Name = "" }, func(x *api.Recipe) { x.Tool.Range = []api.Gap{{}} },
		func(x *api.Recipe) { x.Build = []api.Dep{dep("x"), dep("y"), dep("x")} }, func(x *api.Recipe) { x.Run = []api.Dep{dep("x"), {Name: "x"}} },
		func(x *api.Recipe) { x.Build = []api.Dep{dep(".x")} }, func(x *api.Recipe) { x.Run = []api.Dep{{Name: "x", Range: []api.Gap{{Lo: 5, Hi: 4}}}} },
		func(x *api.Recipe) { x.Build = inputs(9) }, func(x *api.Recipe) { x.Run = inputs(9) }, func(x *api.Recipe) { *x = api.Recipe{} },
	} {
		x := copied(good)
		change(&x)
		if Good(x) {
			t.Errorf("%d: %v", i, x)
		}
		s := New()
		if e := s.Add(x); e != api.ErrArg || s.Has(x.Pkg) {
			t.Errorf("%d: %d", i, e)
		}
	}
	good.Build, good.Run = inputs(8), inputs(8)
	if !Good(good) {
		t.Error("eight inputs")
	}
}

// P14.1
func TestCompare(t *testing.T) {
	rising := []api.Pkg{pkg("", 9, 9, 9), pkg("A", 0, 0, 0), pkg("a", -1, 0, 0), pkg("a", 0, 0, 0), pkg("a", 0, 0, 5000), pkg("a", 0, 1, 0), pkg("a-", 0, 0, 0), pkg("a.", 0, 0, 0), pkg("b", 0, 0, 0)}
	for i, a := range rising {
		for j, b := range rising {
			if got := Compare(a, b); got < -1 || got > 1 || got < 0 != (i < j) || got > 0 != (i > j) {
				t.Errorf("%v, %v: %d", a, b, got)
			}
		}
	}
}

// P14.1
func TestExample(t *testing.T) {
	s := New()
	if e := s.Seed(pkg("cc", 1, 0, 0)); e != api.OK {
		t.Fatal(e)
	}
	if e := s.Add(made(pkg("cc", 2, 0, 0))); e != api.OK {
		t.Fatal(e)
	}
	if got := slices.Collect(s.Fits(dep("cc"))); !slices.Equal(got, []api.Pkg{pkg("cc", 2, 0, 0), pkg("cc", 1, 0, 0)}) {
		t.Errorf("%v", got)
	}
	if e := s.Seed(pkg("cc", 2, 0, 0)); e != api.ErrTwice {
		t.Errorf("%d", e)
	}
	if e := s.Seed(pkg("cc", 1, 0, 0)); e != api.ErrTwice {
		t.Errorf("%d", e)
	}
	if e := s.Add(made(pkg("cc", 1, 0, 0))); e != api.ErrTwice {
		t.Errorf("%d", e)
	}
	if e := s.Add(made(pkg("cc", 2, 0, 0), "x")); e != api.ErrTwice {
		t.Errorf("%d", e)
	}
	if got := slices.Collect(s.Fits(api.Dep{Name: "cc", Range: []api.Gap{{Lo: 0, Hi: 2000000}}})); !slices.Equal(got, []api.Pkg{pkg("cc", 1, 0, 0)}) {
		t.Errorf("%v", got)
	}
	if got := slices.Collect(s.Fits(api.Dep{Name: "c", Range: all})); len(got) != 0 {
		t.Errorf("%v", got)
	}
	if got := slices.Collect(s.Fits(api.Dep{Name: "cc"})); len(got) != 0 {
		t.Errorf("%v", got)
	}
	bad := api.Dep{Name: "cc", Range: []api.Gap{{Lo: 2000000, Hi: 9000000}, {Lo: -5, Hi: 1500000}}}
	if got := slices.Collect(s.Fits(bad)); len(got) != 2 {
		t.Errorf("gaps that are no range: %v", got)
	}
}

// P14.1
func TestLimits(t *testing.T) {
	s := New()
	for i := range 9 {
		want := api.OK
		if i == 8 {
			want = api.ErrMany
		}
		if e := s.Seed(pkg("s", i, 0, 0)); e != want {
			t.Errorf("seed %d: %d", i, e)
		}
	}
	for i := range 33 {
		want := api.OK
		if i == 32 {
			want = api.ErrMany
		}
		if e := s.Add(made(pkg("r", i, 0, 0))); e != want {
			t.Errorf("recipe %d: %d", i, e)
		}
	}
	for i, e := range []api.Errno{s.Seed(pkg("s", 1000, 0, 0)), s.Seed(pkg("s", 1, 0, 0)), s.Seed(pkg("r", 1, 0, 0)), s.Seed(pkg("x", 1, 0, 0))} {
		if e != []api.Errno{api.ErrArg, api.ErrTwice, api.ErrTwice, api.ErrMany}[i] {
			t.Errorf("seed: %d: %d", i, e)
		}
	}
	for i, e := range []api.Errno{s.Add(api.Recipe{}), s.Add(made(pkg("s", 1, 0, 0))), s.Add(made(pkg("r", 1, 0, 0))), s.Add(made(pkg("x", 1, 0, 0)))} {
		if e != []api.Errno{api.ErrArg, api.ErrTwice, api.ErrTwice, api.ErrMany}[i] {
			t.Errorf("recipe: %d: %d", i, e)
		}
	}
	if got := slices.Collect(s.All()); len(got) != 40 || s.Has(pkg("s", 8, 0, 0)) || s.Has(pkg("r", 32, 0, 0)) {
		t.Errorf("%d packages", len(got))
	}
	for i, p := range []api.Pkg{pkg("A", 1, 0, 0), pkg("", 1, 0, 0), pkg("a", 0, 0, -1), pkg("a", 1000, 0, 0), pkg(strings.Repeat("a", 33), 0, 0, 0)} {
		if e := New().Seed(p); e != api.ErrArg {
			t.Errorf("%d: %d", i, e)
		}
	}
}

// P14.1
func TestNil(t *testing.T) {
	var s *Stock
	if s.Seed(api.Pkg{}) != api.ErrNil || s.Add(api.Recipe{}) != api.ErrNil || s.Has(pkg("a", 1, 0, 0)) || s.IsSeed(pkg("a", 1, 0, 0)) {
		t.Error("a nil stock")
	}
	if x, ok := s.Recipe(pkg("a", 1, 0, 0)); ok || x.Pkg.Name != "" {
		t.Error("a nil stock has a recipe")
	}
	if len(slices.Collect(s.All())) != 0 || len(slices.Collect(s.Fits(dep("a")))) != 0 {
		t.Error("a nil stock has packages")
	}
	c := s.Copy()
	if c == nil || c.Seed(pkg("a", 1, 0, 0)) != api.OK {
		t.Error("its copy is no empty stock")
	}
}

// P14.1, P14.2
func TestEveryOrder(t *testing.T) {
	r := rand.New(rand.NewSource(1))
	for range 200 {
		s, seeds, recipes := New(), map[api.Pkg]bool{}, map[api.Pkg]api.Recipe{}
		for range 60 {
			p := pkg(string("ab-x"[r.Intn(4)]), r.Intn(3), 0, r.Intn(2)*999)
			_, had := recipes[p]
			if r.Intn(4) == 0 {
				want := api.OK
				if had || seeds[p] {
					want = api.ErrTwice
				} else if len(seeds) == 8 {
					want = api.ErrMany
				} else {
					seeds[p] = true
				}
				if e := s.Seed(p); e != want {
					t.Fatalf("%v: %d instead of %d", p, e, want)
				}
				continue
			}
			x := made(p, []string{"x", "y"}[:r.Intn(3)]...)
			want := api.OK
			if had || seeds[p] {
				want = api.ErrTwice
			} else {
				recipes[p] = x
			}
			if e := s.Add(x); e != want {
				t.Fatalf("%v: %d instead of %d", p, e, want)
			}
		}
		var want []api.Pkg
		for p := range seeds {
			want = append(want, p)
		}
		for p := range recipes {
			want = append(want, p)
		}
		slices.SortFunc(want, Compare)
		if got := slices.Collect(s.All()); !slices.Equal(got, want) {
			t.Fatalf("%v instead of %v", got, want)
		}
		for _, p := range append(want, pkg("q", 1, 0, 0), pkg("a", 1, 1, 1), pkg("a", 0, 0, -1)) {
			x, ok := s.Recipe(p)
			y, has := recipes[p]
			if ok != has || !reflect.DeepEqual(x, y) || s.IsSeed(p) != seeds[p] || s.Has(p) != (has || seeds[p]) {
				t.Fatalf("%v: %v, %t", p, x, ok)
			}
		}
		lo := r.Intn(3) * 1000000
		d := api.Dep{Name: "a", Range: []api.Gap{{Lo: lo, Hi: lo + 1500000}}}
		fit := slices.DeleteFunc(slices.Clone(want), func(p api.Pkg) bool {
			n := version.Number(p.Version)
			return p.Name != "a" || n < lo || n >= lo+1500000
		})
		slices.Reverse(fit)
		if got := slices.Collect(s.Fits(d)); !slices.Equal(got, fit) {
			t.Fatalf("%v instead of %v", got, fit)
		}
	}
}

// P14.2
func TestGoingOver(t *testing.T) {
	s := New()
	for i := range 3 {
		s.Seed(pkg("a", i, 0, 0))
		s.Seed(pkg("b", i, 0, 0))
	}
	d := dep("a")
	packs, fits := s.All(), s.Fits(d)
	d.Range[0].Lo = 1000000
	s.Seed(pkg("a", 9, 0, 0))
	s.Seed(pkg("c", 9, 0, 0))
	for range 2 {
		if a, b := slices.Collect(packs), slices.Collect(fits); len(a) != 6 || len(b) != 3 || b[0] != pkg("a", 2, 0, 0) {
			t.Errorf("%v, %v", a, b)
		}
	}
	count := 0
	for range packs {
		for p := range packs {
			if count++; p == pkg("b", 0, 0, 0) {
				break
			}
		}
		for range fits {
			count++
			break
		}
	}
	if count != 6*5 {
		t.Errorf("within itself, and stopped: %d", count)
	}
}

// P14.3
func TestNewMemory(t *testing.T) {
	s, x := New(), made(pkg("a", 1, 0, 0), "b", "c")
	x.Run = []api.Dep{dep("d")}
	want := made(pkg("a", 1, 0, 0), "b", "c")
	want.Run = []api.Dep{dep("d")}
	s.Add(x)
	change := func(x *api.Recipe) {
		x.Tool.Range[0].Lo, x.Build[0].Name, x.Build[1].Range[0].Lo, x.Run[0].Range[0].Hi = 5, "changed", 6, 7
	}
	change(&x)
	c := s.Copy()
	for range 2 {
		for _, s := range []*Stock{s, c} {
			got, ok := s.Recipe(want.Pkg)
			if !ok || !reflect.DeepEqual(got, want) {
				t.Errorf("%v", got)
			}
			change(&got)
		}
	}
	c.Seed(pkg("z", 1, 0, 0))
	c.Add(made(pkg("a", 2, 0, 0)))
	s.Add(made(pkg("a", 3, 0, 0)))
	if s.Has(pkg("z", 1, 0, 0)) || s.Has(pkg("a", 2, 0, 0)) || c.Has(pkg("a", 3, 0, 0)) {
		t.Error("a stock and its copy know of one another")
	}
	for i := range 7 {
		c.Seed(pkg("y", i, 0, 0))
	}
	if c.Seed(pkg("y", 9, 0, 0)) != api.ErrMany || s.Seed(pkg("y", 9, 0, 0)) != api.OK {
		t.Error("the seeds of a copy are counted wrong")
	}
}
