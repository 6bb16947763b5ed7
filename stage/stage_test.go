package stage

import (
	"fmt"
	"math"
	"math/rand"
	"slices"
	"strings"
	"testing"

	"sapling/api"
	"sapling/solve"
	"sapling/span"
	"sapling/stock"
	"sapling/version"
)

// pkg answers the package of a text like app 1.
func pkg(s string) api.Pkg {
	name, v, _ := strings.Cut(s, " ")
	return api.Pkg{Name: name, Version: api.Version{int(v[0] - '0'), 0, 0}}
}

// deps answers the inputs of a text like "lib *, rt =1.0.0".
func deps(s string) []api.Dep {
	var out []api.Dep
	for part := range strings.SplitSeq(s, ", ") {
		if name, text, ok := strings.Cut(part, " "); ok {
			r, e := span.Parse(text)
			if e != api.OK {
				panic(text)
			}
			out = append(out, api.Dep{Name: name, Range: r})
		}
	}
	return out
}

// made answers a stock from lines: a package, and of one with a recipe its tool, its build, its run, parted by "/".
func made(t *testing.T, lines ...string) *stock.Stock {
	t.Helper()
	s := stock.New()
	for _, l := range lines {
		parts := strings.Split(l, " / ")
		e := api.OK
		if len(parts) == 1 {
			e = s.Seed(pkg(l))
		} else {
			e = s.Add(api.Recipe{Pkg: pkg(parts[0]), Tool: deps(parts[1])[0], Build: deps(parts[2]), Run: deps(parts[3])})
		}
		if e != api.OK {
			t.Fatalf("%s: %d", l, e)
		}
	}
	return s
}

// show answers entries as a text: each package's name, major number and stage, its tool and what stands beside it.
func show(t *Stages) string {
	var out []string
	for x := range t.All() {
		s := fmt.Sprint(x.Pkg.Name, x.Pkg.Version[0], ":", x.Stage)
		for _, p := range append([]api.Pkg{x.Choice.Tool}, x.Choice.With...) {
			if p.Name != "" {
				s += fmt.Sprint(" ", p.Name, p.Version[0])
			}
		}
		out = append(out, s)
	}
	return strings.Join(out, ", ")
}

func showLess(t *Stages) string {
	var out []string
	for _, p := range t.Less() {
		out = append(out, fmt.Sprint(p.Name, p.Version[0]))
	}
	return strings.Join(out, ", ")
}

// P16.1
func TestExamples(t *testing.T) {
	for i, c := range []struct {
		lines []string
		all   string
		less  string
		made  int
	}{
		{nil, "", "", 0},
		{[]string{"cc 1", "b 2", "b 1"}, "b1:0, b2:0, cc1:0", "", 0},
		{[]string{"cc 3 / cc >=2.0.0 / - / -", "cc 2 / cc <2.0.0 / - / -", "cc 1"}, "cc1:0, cc2:1 cc1, cc3:2 cc2", "", 2},
		{[]string{"x 1 / x * / - / -"}, "", "x1", 0},
		{[]string{"cc 1", "x 1 / cc * / y * / -", "y 1 / cc * / x * / -", "z 1 / cc * / - / -"}, "cc1:0, z1:1 cc1", "x1, y1", 3 + 2},
		// Two that need one another at run alone.
		{[]string{"cc 1", "x 1 / cc * / - / y *", "y 1 / cc * / - / x *", "z 1 / cc * / x * / -"}, "cc1:0, x1:1 cc1, y1:1 cc1, z1:2 cc1 x1 y1", "", 4 - 1 + 3},
		// The choice is that of the first stage at which there is one: later ones don't change it.
		{[]string{"cc 1", "cc 2 / cc * / - / -", "a 1 / cc * / - / -", "b 1 / cc >=2.0.0 / a * / -"}, "cc1:0, a1:1 cc1, cc2:1 cc1, b1:2 cc2 a1", "", 2 + 2},
		{[]string{"cc 1", "a 1 / cc * / b * / -", "b 1 / cc * / c * / -", "c 1 / cc * / d * / -", "d 1 / cc * / - / -"}, "cc1:0, d1:1 cc1, c1:2 cc1 d1, b1:3 cc1 c1, a1:4 cc1 b1", "", (1 + 1 + 1 + 1) + (1 + 1 + 2) + (1 + 2) + 2},
	} {
		got, e := Fix(made(t, c.lines...), 100)
		if e != api.OK || show(got) != c.all || showLess(got) != c.less || got.Made() != c.made {
			t.Errorf("%d: %s; %s; %d decisions, %d", i, show(got), showLess(got), got.Made(), e)
		}
	}
}

// P16.1
func TestErrors(t *testing.T) {
	if got, e := Fix(nil, 100); got != nil || e != api.ErrNil {
		t.Errorf("a nil stock: %d", e)
	}
	s := made(t, "cc 1", "x 1 / cc * / y * / -", "y 1 / cc * / x * / -", "z 1 / cc * / - / -")
	for left, want := range map[int]api.Errno{5: api.OK, 6: api.OK, math.MaxInt: api.OK, 4: api.ErrBudget, 3: api.ErrBudget, 1: api.ErrBudget, 0: api.ErrBudget, -1: api.ErrBudget, math.MinInt: api.ErrBudget} {
		if got, e := Fix(s, left); e != want || (got == nil) != (e != api.OK) {
			t.Errorf("with %d: %d", left, e)
		}
	}
	for _, s := range []*stock.Stock{made(t, "cc 1"), made(t, "x 1 / x * / - / -"), stock.New()} {
		if got, e := Fix(s, math.MinInt); e != api.OK || got.Made() != 0 {
			t.Errorf("without decisions: %d", e)
		}
	}
}

// P16.1
func TestNil(t *testing.T) {
	var none *Stages
	if x, ok := none.Get(pkg("a 1")); ok || x.Pkg.Name != "" || show(none) != "" || len(none.Less()) != 0 || none.Made() != 0 {
		t.Error("nil stages")
	}
}

// random answers lines of a stock.
func random(r *rand.Rand) []string {
	names := []string{"a", "b", "c", "d"}[:2+r.Intn(3)]
	input := func() string {
		return names[r.Intn(len(names))] + " " + []string{"*", "=1.0.0", "<3.0.0", ">=2.0.0", "^1.0.0 | ^3.0.0"}[r.Intn(5)]
	}
	inputs := func() string {
		out := map[string]string{}
		for range r.Intn(3) {
			name, text, _ := strings.Cut(input(), " ")
			out[name] = text
		}
		var list []string
		for _, name := range names {
			if text, ok := out[name]; ok {
				list = append(list, name+" "+text)
			}
		}
		return strings.Join(append(list, "-"), ", ")
	}
	var out []string
	for _, name := range names {
		for v := 1; v < 4; v++ {
			switch r.Intn(5) {
			case 0:
				out = append(out, fmt.Sprint(name, " ", v))
			case 1, 2, 3:
				out = append(out, fmt.Sprint(name, " ", v, " / ", input(), " / ", inputs(), " / ", inputs()))
			}
		}
	}
	return out[:min(len(out), 8)]
}

func willDo(p api.Pkg, d api.Dep) bool { return p.Name == d.Name && span.Has(d.Range, p.Version) }

// some answers whether any choice holds for a package and a pool: it tries all of them.
func some(s *stock.Stock, p api.Pkg, pool []api.Pkg) bool {
	x, _ := s.Recipe(p)
	if !slices.ContainsFunc(pool, func(q api.Pkg) bool { return willDo(q, x.Tool) }) {
		return false
	}
	for set := range 1 << len(pool) {
		var with []api.Pkg
		needs := slices.Clone(x.Build)
		names := map[string]int{}
		for i, q := range pool {
			if set>>i&1 == 1 {
				y, _ := s.Recipe(q)
				with, needs = append(with, q), append(needs, y.Run...)
				names[q.Name]++
			}
		}
		good := len(names) == len(with)
		for _, d := range needs {
			good = good && slices.ContainsFunc(with, func(q api.Pkg) bool { return willDo(q, d) })
		}
		if good {
			return true
		}
	}
	return false
}

// buildable answers the least set that the seeds reach.
func buildable(s *stock.Stock) []api.Pkg {
	var set []api.Pkg
	for more := true; more; {
		more = false
		for p := range s.All() {
			if !slices.Contains(set, p) && (s.IsSeed(p) || some(s, p, set)) {
				set, more = append(set, p), true
			}
		}
	}
	slices.SortFunc(set, stock.Compare)
	return set
}

// P16.1, P16.2, P16.3
func TestLeast(t *testing.T) {
	r := rand.New(rand.NewSource(1))
	later := 0
	for range 300 {
		s := made(t, random(r)...)
		got, e := Fix(s, 100000)
		if e != api.OK {
			t.Fatal(e)
		}
		var set []api.Pkg
		for x := range got.All() {
			if y, ok := got.Get(x.Pkg); !ok || fmt.Sprint(y) != fmt.Sprint(x) {
				t.Fatalf("Get of %v: %v", x, y)
			}
			set = append(set, x.Pkg)
			if s.IsSeed(x.Pkg) != (x.Stage == 0) {
				t.Fatalf("%v", x)
			}
			later += max(0, x.Stage-1)
		}
		checkStages(t, s, got)
		checkWhy(t, s, got)
		slices.SortFunc(set, stock.Compare)
		if want := buildable(s); !slices.Equal(set, want) {
			t.Fatalf("%v instead of %v", set, want)
		}
	}
	if later < 20 {
		t.Errorf("only %d stages above the first", later)
	}
}

// checkStages asks for each stage what the solver says of all that stands at no stage below it.
func checkStages(t *testing.T, s *stock.Stock, got *Stages) {
	t.Helper()
	made, last := 0, 0
	for n := 1; n <= last+1; n++ {
		var pool []api.Pkg
		for x := range got.All() {
			last = max(last, x.Stage)
			if x.Stage < n {
				pool = append(pool, x.Pkg)
			}
		}
		for p := range s.All() {
			if slices.Contains(pool, p) {
				continue
			}
			c, m, e := solve.Solve(s, p, pool, 100000)
			made += m
			x, ok := got.Get(p)
			if now := ok && x.Stage == n; now != (e == api.OK) || now && fmt.Sprint(c) != fmt.Sprint(x.Choice) {
				t.Fatalf("stage %d: %v: %v, %d", n, p, x, e)
			}
		}
	}
	if made != got.Made() {
		t.Fatalf("%d decisions instead of %d", got.Made(), made)
	}
}

// checkWhy holds what can't be built against what can.
func checkWhy(t *testing.T, s *stock.Stock, got *Stages) {
	t.Helper()
	less := got.Less()
	pool := slices.DeleteFunc(slices.Collect(s.All()), func(p api.Pkg) bool { return slices.Contains(less, p) })
	var want []api.Pkg
	for p := range s.All() {
		if _, ok := got.Get(p); !ok {
			want = append(want, p)
		}
	}
	if !slices.Equal(less, want) {
		t.Fatalf("%v instead of %v", less, want)
	}
	for _, p := range less {
		if some(s, p, pool) {
			t.Fatalf("%v could be built without %v", p, less)
		}
	}
	for x := range got.All() {
		for _, p := range append(slices.Clone(x.Choice.With), x.Choice.Tool) {
			if y, ok := got.Get(p); x.Stage > 0 && (!ok || y.Stage >= x.Stage) {
				t.Fatalf("%v: %v", x, y)
			}
		}
	}
}

// P16.4
func TestMoreTakesNothingAway(t *testing.T) {
	r := rand.New(rand.NewSource(2))
	for range 300 {
		lines := random(r)
		cut := r.Intn(len(lines) + 1)
		few, e := Fix(made(t, lines[:cut]...), 100000)
		all, f := Fix(made(t, lines...), 100000)
		if e != api.OK || f != api.OK {
			t.Fatal(e, f)
		}
		for x := range few.All() {
			if y, ok := all.Get(x.Pkg); !ok || y.Stage > x.Stage {
				t.Fatalf("%v is gone with more: %v", x, y)
			}
		}
	}
}

// P16.1, P16.5
func TestNewMemory(t *testing.T) {
	s := made(t, "cc 1", "lib 1 / cc * / - / -", "app 1 / cc * / lib * / -", "x 1 / x * / - / -", "y 1 / x * / - / -")
	got, _ := Fix(s, 100)
	before, less := show(got), showLess(got)
	over := got.All()
	for x := range over {
		if len(x.Choice.With) > 0 {
			x.Choice.With[0].Name = "changed"
		}
	}
	x, _ := got.Get(pkg("app 1"))
	x.Choice.With[0].Name = "changed"
	got.Less()[0].Name = "changed"
	s.Seed(pkg("x 2"))
	s.Add(api.Recipe{Pkg: pkg("z 1"), Tool: api.Dep{Name: "cc", Range: []api.Gap{{Hi: version.All}}}})
	if show(got) != before || showLess(got) != less {
		t.Errorf("%s; %s", show(got), showLess(got))
	}
	count := 0
	for range over {
		for x := range over {
			if count++; x.Stage == 1 {
				break
			}
		}
	}
	if count != 6 {
		t.Errorf("within itself, and stopped: %d", count)
	}
}
