package solve

import (
	"math"
	"math/rand"
	"slices"
	"strings"
	"testing"

	"sapling/api"
	"sapling/span"
	"sapling/stock"
	"sapling/version"
)

// pkg answers the package of a text like app 1.
func pkg(s string) api.Pkg {
	name, v, _ := strings.Cut(s, " ")
	return api.Pkg{Name: name, Version: api.Version{int(v[0] - '0'), 0, 0}}
}

func pkgs(list ...string) []api.Pkg {
	var out []api.Pkg
	for _, s := range list {
		out = append(out, pkg(s))
	}
	return out
}

// deps answers the inputs of a text like "lib *, rt =1.0.0".
func deps(s string) []api.Dep {
	var out []api.Dep
	for part := range strings.SplitSeq(s, ", ") {
		if name, text, ok := strings.Cut(part, " "); ok {
			r, e := span.Parse(text)
			if e != api.OK {
				panic(text)
			}
			out = append(out, api.Dep{Name: name, Range: r})
		}
	}
	return out
}

// made answers a stock from lines: a package, and of one with a recipe its tool, its build, its run, parted by "/".
func made(t *testing.T, lines ...string) *stock.Stock {
	t.Helper()
	s := stock.New()
	for _, l := range lines {
		parts := strings.Split(l, " / ")
		e := api.OK
		if len(parts) == 1 {
			e = s.Seed(pkg(l))
		} else {
			e = s.Add(api.Recipe{Pkg: pkg(parts[0]), Tool: deps(parts[1])[0], Build: deps(parts[2]), Run: deps(parts[3])})
		}
		if e != api.OK {
			t.Fatalf("%s: %d", l, e)
		}
	}
	return s
}

func sameChoice(a, b api.Choice) bool { return a.Tool == b.Tool && slices.Equal(a.With, b.With) }

// example is that of the chapter.
func example(t *testing.T) (*stock.Stock, []api.Pkg) {
	return made(t, "cc 1", "app 1 / cc * / lib * / -", "lib 1 / cc * / - / rt =1.0.0", "lib 2 / cc * / - / rt =2.0.0", "rt 1 / cc * / - / -"),
		pkgs("lib 1", "lib 2", "rt 1", "cc 1")
}

// P15.1
func TestExample(t *testing.T) {
	s, pool := example(t)
	want := api.Choice{Tool: pkg("cc 1"), With: pkgs("lib 1", "rt 1")}
	for _, left := range []int{4, 5, math.MaxInt} {
		if got, n, e := Solve(s, pkg("app 1"), pool, left); !sameChoice(got, want) || n != 4 || e != api.OK {
			t.Errorf("%v, %d, %d", got, n, e)
		}
	}
	for left, n := range map[int]int{3: 3, 2: 2, 1: 1, 0: 0, -1: 0, math.MinInt: 0} {
		if got, m, e := Solve(s, pkg("app 1"), pool, left); !sameChoice(got, api.Choice{}) || m != n || e != api.ErrBudget {
			t.Errorf("with %d: %v, %d, %d", left, got, m, e)
		}
	}
	shuffled := pkgs("rt 1", "cc 1", "nowhere 1", "lib 2", "lib 1", "rt 1", "cc 2", "lib 2", "app 1")
	if got, n, e := Solve(s, pkg("app 1"), shuffled, 9); !sameChoice(got, want) || n != 4 || e != api.OK {
		t.Errorf("%v, %d, %d", got, n, e)
	}
}

// P15.1
func TestErrors(t *testing.T) {
	s, pool := example(t)
	for i, c := range []struct {
		s    *stock.Stock
		p    string
		pool []api.Pkg
		left int
		n    int
		want api.Errno
	}{
		{nil, "app 1", pool, 9, 0, api.ErrNil}, {nil, "no 1", nil, 0, 0, api.ErrNil}, {s, "app 2", pool, 0, 0, api.ErrNone}, {s, "cc 1", pool, 9, 0, api.ErrNone},
		{s, "no 1", pool, 9, 0, api.ErrNone}, {s, "app 1", nil, 9, 0, api.ErrClash}, {s, "app 1", nil, 0, 0, api.ErrClash},
		{s, "app 1", pkgs("lib 1", "rt 1"), 0, 0, api.ErrClash}, {s, "app 1", pkgs("cc 1"), 9, 1, api.ErrClash}, {s, "app 1", pkgs("cc 1"), 1, 1, api.ErrClash},
		{s, "app 1", pkgs("cc 1"), 0, 0, api.ErrBudget}, {s, "app 1", pkgs("cc 1", "lib 1", "lib 2"), 9, 3, api.ErrClash},
		{s, "app 1", pkgs("cc 1", "lib 1", "lib 2"), 3, 3, api.ErrClash}, {s, "app 1", pkgs("cc 1", "lib 1", "lib 2"), 2, 2, api.ErrBudget},
		{stock.New(), "app 1", pool, 9, 0, api.ErrNone}, {s, "rt 1", pkgs("cc 1"), 1, 1, api.OK},
	} {
		got, n, e := Solve(c.s, pkg(c.p), c.pool, c.left)
		if n != c.n || e != c.want || e != api.OK && !sameChoice(got, api.Choice{}) {
			t.Errorf("%d: %v, %d, %d", i, got, n, e)
		}
	}
}

// P15.1
func TestOrderOfTrying(t *testing.T) {
	for i, c := range []struct {
		lines []string
		pool  string
		tool  string
		with  string
		n     int
		e     api.Errno
	}{
		{[]string{"cc 1", "cc 2", "cc 3", "a 1 / cc <3.0.0 / - / -"}, "cc 1, cc 2, cc 3", "cc 2", "", 1, api.OK},
		// The tool isn't among the chosen: a want of its name may choose another version.
		{[]string{"cc 1", "cc 2", "a 1 / cc * / cc =1.0.0 / -"}, "cc 1, cc 2", "cc 2", "cc 1", 2, api.OK},
		// What the tool needs at run isn't looked at.
		{[]string{"x 1", "cc 2 / x * / - / y *", "a 1 / cc * / - / z *"}, "cc 2", "cc 2", "", 1, api.OK},
		// A want that is met by what was chosen ahead of it makes no decision.
		{[]string{"cc 1", "b 1", "c 1 / cc * / - / b *", "a 1 / cc * / b *, c * / -"}, "cc 1, b 1, c 1", "cc 1", "b 1, c 1", 3, api.OK},
		// A later want that isn't met takes the earlier choice back.
		{[]string{"cc 1", "b 1", "b 2", "c 1 / cc * / - / b <2.0.0", "a 1 / cc * / b *, c * / -"}, "cc 1, b 1, b 2, c 1", "cc 1", "b 1, c 1", 5, api.OK},
		// Two that need one another.
		{[]string{"cc 1", "b 1 / cc * / - / c *", "c 1 / cc * / - / b *", "a 1 / cc * / b * / -"}, "cc 1, b 1, c 1", "cc 1", "b 1, c 1", 3, api.OK},
		// Itself, if it is in the pool.
		{[]string{"cc 1", "a 1 / cc * / a * / a *"}, "cc 1, a 1", "cc 1", "a 1", 2, api.OK},
		// The run's wants stand behind all others.
		{[]string{"cc 1", "b 1 / cc * / - / d *", "c 1", "a 1 / cc * / b *, c * / -"}, "cc 1, b 1, c 1", "", "", 3, api.ErrClash},
		// One version after the other, each with all that follows.
		{[]string{"cc 1", "b 1", "b 2", "b 3", "c 1", "c 2", "a 1 / cc * / b *, c *, d * / -"}, "cc 1, b 1, b 2, b 3, c 1, c 2", "", "", 1 + 3 + 6, api.ErrClash},
		{[]string{"cc 1", "a 1 / cc none / - / -"}, "cc 1", "", "", 0, api.ErrClash},
		{[]string{"cc 1", "b 1", "a 1 / cc * / b none / -"}, "cc 1, b 1", "", "", 1, api.ErrClash},
	} {
		s := made(t, c.lines...)
		want := api.Choice{}
		if c.e == api.OK {
			want.Tool = pkg(c.tool)
			for p := range strings.SplitSeq(c.with, ", ") {
				if p != "" {
					want.With = append(want.With, pkg(p))
				}
			}
		}
		got, n, e := Solve(s, pkg("a 1"), pkgs(strings.Split(c.pool, ", ")...), 100)
		if !sameChoice(got, want) || n != c.n || e != c.e {
			t.Errorf("%d: %v, %d, %d", i, got, n, e)
		}
	}
}

// random answers a stock, and a pool out of it.
func random(r *rand.Rand) (*stock.Stock, []api.Pkg) {
	s := stock.New()
	names := []string{"a", "b", "c", "d", "e"}[:2+r.Intn(4)]
	input := func() api.Dep {
		lo := 1 + r.Intn(3)
		d := api.Dep{Name: names[r.Intn(len(names))], Range: []api.Gap{{Lo: lo * 1000000, Hi: (lo + 1 + r.Intn(2)) * 1000000}}}
		if r.Intn(2) == 0 {
			d.Range[0] = api.Gap{Hi: version.All}
		}
		return d
	}
	inputs := func(n int) []api.Dep {
		var out []api.Dep
		for range r.Intn(n + 1) {
			d := input()
			if !slices.ContainsFunc(out, func(x api.Dep) bool { return x.Name == d.Name }) {
				out = append(out, d)
			}
		}
		return out
	}
	for _, name := range names {
		for v := range 3 {
			p := api.Pkg{Name: name, Version: api.Version{1 + v, 0, 0}}
			switch r.Intn(5) {
			case 0:
				s.Seed(p)
			case 1:
			default:
				s.Add(api.Recipe{Pkg: p, Tool: input(), Build: inputs(3), Run: inputs(2)})
			}
		}
	}
	pool := slices.Collect(s.All())
	pool = slices.DeleteFunc(pool, func(api.Pkg) bool { return r.Intn(5) == 0 })
	r.Shuffle(len(pool), func(i, j int) { pool[i], pool[j] = pool[j], pool[i] })
	return s, pool
}

func willDo(p api.Pkg, d api.Dep) bool { return p.Name == d.Name && span.Has(d.Range, p.Version) }

// holds answers whether a choice holds for a pool, as the chapter says it.
func holds(s *stock.Stock, p api.Pkg, pool []api.Pkg, c api.Choice) bool {
	x, _ := s.Recipe(p)
	needs := slices.Clone(x.Build)
	for i, q := range c.With {
		y, _ := s.Recipe(q)
		needs = append(needs, y.Run...)
		if !slices.Contains(pool, q) || !s.Has(q) || slices.ContainsFunc(c.With[:i], func(o api.Pkg) bool { return o.Name == q.Name }) {
			return false
		}
	}
	for _, d := range needs {
		if !slices.ContainsFunc(c.With, func(q api.Pkg) bool { return willDo(q, d) }) {
			return false
		}
	}
	return slices.Contains(pool, c.Tool) && s.Has(c.Tool) && willDo(c.Tool, x.Tool)
}

// some answers whether any choice holds: it tries all of them.
func some(s *stock.Stock, p api.Pkg, pool []api.Pkg) bool {
	for _, tool := range pool {
		for set := range 1 << len(pool) {
			c := api.Choice{Tool: tool}
			for i, q := range pool {
				if set>>i&1 == 1 {
					c.With = append(c.With, q)
				}
			}
			if holds(s, p, pool, c) {
				return true
			}
		}
	}
	return false
}

// slow does the search as the chapter tells it, over lists that are never changed.
func slow(s *stock.Stock, pool []api.Pkg, wants []api.Dep, chosen []api.Pkg, made *int) ([]api.Pkg, bool) {
	if len(wants) == 0 {
		return chosen, true
	}
	for _, q := range chosen {
		if q.Name == wants[0].Name {
			if !willDo(q, wants[0]) {
				return nil, false
			}
			return slow(s, pool, wants[1:], chosen, made)
		}
	}
	for v := 9; v >= 0; v-- {
		q := api.Pkg{Name: wants[0].Name, Version: api.Version{v, 0, 0}}
		if !slices.Contains(pool, q) || !s.Has(q) || !willDo(q, wants[0]) {
			continue
		}
		*made++
		x, _ := s.Recipe(q)
		if got, ok := slow(s, pool, slices.Concat(wants[1:], x.Run), slices.Concat(chosen, []api.Pkg{q}), made); ok {
			return got, true
		}
	}
	return nil, false
}

// P15.1, P15.2, P15.3
func TestSoundAndComplete(t *testing.T) {
	r := rand.New(rand.NewSource(1))
	solved, clashed := 0, 0
	for range 1000 {
		s, pool := random(r)
		for p := range s.All() {
			x, ok := s.Recipe(p)
			if !ok {
				continue
			}
			got, n, e := Solve(s, p, pool, 100000)
			tools := slices.DeleteFunc(slices.Clone(pool), func(q api.Pkg) bool { return !willDo(q, x.Tool) })
			want, want2, count := api.Choice{}, false, 0
			if len(tools) > 0 {
				count = 1
				want.Tool = slices.MaxFunc(tools, stock.Compare)
				want.With, want2 = slow(s, pool, x.Build, nil, &count)
				slices.SortFunc(want.With, stock.Compare)
			}
			if e == api.OK != want2 || n != count || want2 && !sameChoice(got, want) {
				t.Fatalf("%v: %v, %d, %d instead of %v, %d, %t", p, got, n, e, want, count, want2)
			}
			if e == api.OK {
				solved++
				if !holds(s, p, pool, got) {
					t.Fatalf("%v: %v doesn't hold for %v", p, got, pool)
				}
				for left := range min(n, 3) {
					if _, m, e := Solve(s, p, pool, left); m != left || e != api.ErrBudget {
						t.Fatalf("%v with %d: %d, %d", p, left, m, e)
					}
				}
			} else {
				clashed++
				if e != api.ErrClash || len(pool) <= 7 && some(s, p, pool) {
					t.Fatalf("%v: %d, but some choice holds for %v", p, e, pool)
				}
			}
		}
	}
	if solved < 500 || clashed < 500 {
		t.Errorf("only %d choices, %d clashes", solved, clashed)
	}
}

// P15.4
func TestNewMemory(t *testing.T) {
	s, list := example(t)
	pool := append(make([]api.Pkg, 0, 9), list...)
	before := slices.Clone(pool[:9])
	one, _, _ := Solve(s, pkg("app 1"), pool, 9)
	two, _, _ := Solve(s, pkg("app 1"), pool, 9)
	one.With[0].Name = "changed"
	if two.With[0].Name != "lib" || !slices.Equal(pool[:9], before) {
		t.Errorf("%v, %v", two, pool[:9])
	}
	if got := slices.Collect(s.All()); len(got) != 5 {
		t.Errorf("the stock is changed: %v", got)
	}
}
