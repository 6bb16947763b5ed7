package forge

import (
	"fmt"
	"maps"
	"math/rand"
	"slices"
	"strings"
	"testing"

	"sapling/api"
	"sapling/code"
	"sapling/ribbon"
	"sapling/span"
	"sapling/tree"
	"sapling/view"
	"sapling/vm"
)

// mixer writes to out all paths that it sees, and their bytes, as far as there is room; and to tool what in/prog/tool has.
const mixer = `text ""; store 1; loop:; load 0; path; zero end; dup; read; pop; cat; load 1; swap; cat; dup; len; push 1500; less; zero trim; store 1; jump next; ` +
	`trim:; push 0; push 700; cut; store 1; next:; load 0; push 1; add; store 0; jump loop; ` +
	`end:; pop; text "out"; load 1; write; text "in/prog/tool"; read; zero none; text "tool"; swap; write; none:; halt`

// world is what comes in ahead of the sealing, and what is wanted.
type world struct {
	seeds   map[string]api.Tree
	recipes []string
	wants   []string
}

// random answers a world in which tools are built, and some builds come to nothing.
func random(r *rand.Rand) world {
	w := world{seeds: map[string]api.Tree{
		"cc 1": tool(mixer), "cc 2": tool(`text "a"; text "b"; write; text "tool"; text "in/prog/tool"; read; pop; write`), "prog 1": tool(mixer),
		"prog 2": tool("push 1; push 0; div"), "src 1": files("a", "x", "b/c", "y"), "bad 1": tool("fail 1"), "empty 1": files(),
	}}
	all := []string{"cc", "prog", "src", "bad", "empty"}
	for i := range 4 + r.Intn(6) {
		name := string(rune('p' + r.Intn(5)))
		p := fmt.Sprint(name, " ", 1+r.Intn(3))
		if slices.ContainsFunc(w.recipes, func(s string) bool { return strings.HasPrefix(s, recipeText(p)) }) {
			continue
		}
		version := func() string { return []string{"*", "*", "<2.0.0", ">=2.0.0", "=1.0.0"}[r.Intn(5)] }
		fields := []string{"tool " + all[[]int{0, 0, r.Intn(len(all))}[r.Intn(3)]] + " " + version()}
		for _, word := range []string{"build", "run"} {
			for _, j := range r.Perm(len(all))[:r.Intn(3)] {
				fields = append(fields, word+" "+all[j]+" "+version())
			}
		}
		if i%2 == 0 && !slices.ContainsFunc(fields, func(s string) bool { return strings.HasPrefix(s, "build prog ") }) {
			fields = append(fields, "build prog "+version())
		}
		w.recipes = append(w.recipes, recipeText(p, fields...))
		w.wants = append(w.wants, p)
		if !slices.Contains(all, name) {
			all = append(all, name)
		}
	}
	return w
}

// begin lets a world come in.
func (w world) begin(t *testing.T, r *ribbon.Ribbon) *Forge {
	t.Helper()
	g := open(t, r)
	for _, p := range slices.Sorted(maps.Keys(w.seeds)) {
		must(t, g.Seed(pkg(p), w.seeds[p]))
	}
	recipes(t, g, w.recipes...)
	must(t, g.Seal())
	for _, p := range w.wants {
		if e := g.Want(pkg(p)); e != api.OK && e != api.ErrNoBootstrap {
			t.Fatalf("%s: %d", p, e)
		}
	}
	return g
}

// came answers what came of each package: its tree's bytes, or its failure.
func came(g *Forge) map[api.Pkg]string {
	out := map[api.Pkg]string{}
	for p := range g.Packs() {
		if t, ok := g.Object(p); ok {
			out[p] = bytesOf(t)
		}
		if e, ok := g.Fate(p); ok {
			out[p] += fmt.Sprint("failed ", e)
		}
	}
	return out
}

// within fails unless all of a is in b.
func within(t *testing.T, a, b map[api.Pkg]string) {
	t.Helper()
	for p, s := range a {
		if b[p] != s {
			t.Fatalf("%v: %q, and then %q", p, s, b[p])
		}
	}
}

// P1, P2, P24.2, P24.3
func TestWhateverTheOrder(t *testing.T) {
	r := rand.New(rand.NewSource(1))
	failed, built := 0, 0
	for range 120 {
		w := random(r)
		plain := w.begin(t, ribbon.New(nil))
		must(t, plain.All())
		want := came(plain)
		for _, s := range want {
			if strings.HasPrefix(s, "failed") {
				failed++
			} else {
				built++
			}
		}
		x := ribbon.New(nil)
		g := w.begin(t, x)
		there := came(g)
		for {
			ready, running := slices.Collect(g.Ready()), slices.Collect(g.Running())
			if len(ready)+len(running) == 0 {
				break
			}
			if r.Intn(9) == 0 {
				x.Arm(1+r.Intn(4), r.Intn(60)-1)
			}
			if n := r.Intn(len(ready) + len(running)); n < len(ready) {
				if there[ready[n]] != "" {
					t.Fatalf("%v is ready once more", ready[n])
				}
				g.Start(ready[n])
			} else {
				g.Step(running[n-len(ready)], r.Intn(1+r.Intn(300)))
			}
			if r.Intn(30) == 0 {
				x.Off(r.Intn(9))
			}
			if x.Down() {
				before := came(g)
				x.On()
				g = open(t, x)
				if after := came(g); len(after) > len(before)+1 || names(g.Running()) != "" {
					t.Fatalf("%v, and then %v", before, after)
				}
				within(t, before, came(g))
			}
			within(t, there, came(g))
			within(t, came(g), want)
			there = came(g)
			for p := range there {
				if g.Start(p) != api.ErrNone {
					t.Fatalf("%v is started once more", p)
				}
			}
		}
		if len(there) != len(want) {
			t.Fatalf("%v instead of %v", there, want)
		}
		if again := came(open(t, x)); len(again) != len(want) {
			t.Fatalf("%v instead of %v", again, want)
		}
	}
	if failed < 50 || built < 200 {
		t.Errorf("only %d failures, %d trees", failed, built)
	}
}

// run answers what the machine makes of a choice: its tree's bytes, or its failure.
func run(g *Forge, c api.Choice) string {
	t, _ := g.Object(c.Tool)
	data, _ := tree.Get(t, "tool")
	p, e := code.Decode(data)
	if e != api.OK {
		return fmt.Sprint("failed ", api.ErrCode)
	}
	var mounts []api.Mount
	for _, q := range c.With {
		t, _ := g.Object(q)
		mounts = append(mounts, api.Mount{Dir: "in/" + q.Name, Tree: t})
	}
	seen, e := view.Build(mounts)
	if e != api.OK {
		return fmt.Sprint("failed ", e)
	}
	out, _, e := vm.Run(p, seen)
	if e != api.OK {
		return fmt.Sprint("failed ", e)
	}
	return bytesOf(out)
}

// P3, P4, P24.4
func TestTrueAndFromTheSeeds(t *testing.T) {
	r := rand.New(rand.NewSource(2))
	waiting := 0
	for range 150 {
		w := random(r)
		g := w.begin(t, ribbon.New(nil))
		must(t, g.All())
		got := came(g)
		for _, p := range w.wants {
			list, e := g.Plan(pkg(p))
			if e != api.OK {
				continue
			}
			for _, x := range list.Entries {
				if x.Stage == 0 {
					continue
				}
				can := true
				for _, q := range append(slices.Clone(x.Choice.With), x.Choice.Tool) {
					_, ok := g.Object(q)
					can = can && ok
				}
				if !can {
					waiting++
				}
				if want := run(g, x.Choice); can && got[x.Pkg] != want || !can && got[x.Pkg] != "" {
					t.Fatalf("%v: %q instead of %q", x, got[x.Pkg], want)
				}
			}
		}
		for p := range got {
			if _, ok := g.Object(p); ok {
				checkFrom(t, g, p)
			}
		}
	}
	if waiting < 20 {
		t.Errorf("only %d wait for a failure", waiting)
	}
}

// checkFrom holds a package's audit against what is there.
func checkFrom(t *testing.T, g *Forge, p api.Pkg) {
	t.Helper()
	list := slices.Collect(g.Audit(p))
	if len(list) == 0 || list[0].Pkg != p || g.Check(p) != api.OK {
		t.Fatalf("%v: %v, %d", p, list, g.Check(p))
	}
	rank := map[api.Pkg]int{}
	for _, x := range list {
		rank[x.Pkg] = x.Rank
	}
	for _, x := range list {
		if x.Rank == 0 != g.stock.IsSeed(x.Pkg) {
			t.Fatalf("%v: %v", p, x)
		}
		if _, ok := g.Object(x.Pkg); !ok {
			t.Fatalf("%v: %v has no object", p, x)
		}
		for _, q := range append(slices.Clone(x.Choice.With), x.Choice.Tool) {
			if n, ok := rank[q]; x.Rank > 0 && (!ok || n >= x.Rank) {
				t.Fatalf("%v: %v", p, x)
			}
		}
	}
}

// P24.2: the power goes in each raw act, with each number of bytes of some.
func TestForGood(t *testing.T) {
	app, b := pkg("app 1"), pkg("b 1")
	acts := []func(g *Forge) api.Errno{
		func(g *Forge) api.Errno { return g.Seed(pkg("cc 1"), tool(copyA)) },
		func(g *Forge) api.Errno { return g.Seed(pkg("src 1"), files("a", "x")) },
		func(g *Forge) api.Errno { _, e := g.Recipe(recipeText("app 1", "tool cc *", "build src *")); return e },
		func(g *Forge) api.Errno { _, e := g.Recipe(recipeText("b 1", "tool app *")); return e },
		(*Forge).Seal,
		func(g *Forge) api.Errno { return g.Want(b) },
		func(g *Forge) api.Errno { g.Start(app); _, _, e := g.Step(app, 9); return e },
		func(g *Forge) api.Errno { return g.Start(b) },
	}
	r := ribbon.New(nil)
	g := open(t, r)
	states := []string{show(g)}
	for i, act := range acts {
		if e := act(g); e != api.OK && (e != api.ErrCode || i != 7) {
			t.Fatalf("%d: %d", i, e)
		}
		raw, _ := r.Read()
		states = append(states, show(open(t, ribbon.New(raw))))
	}
	for n := 1; n <= 16; n++ {
		for keep := -1; keep < 90; keep++ {
			r := ribbon.New(nil)
			g := open(t, r)
			r.Arm(n, keep)
			done := 0
			for _, act := range acts {
				if act(g) == api.ErrDown {
					break
				}
				done++
			}
			if done != (n-1)/2 || !r.Down() {
				t.Fatalf("%d, %d: %d done", n, keep, done)
			}
			r.On()
			g = open(t, r)
			if got := show(g); got != states[done] && got != states[done+1] {
				t.Fatalf("%d, %d: %s instead of %s or %s", n, keep, got, states[done], states[done+1])
			}
			for _, act := range acts[g.Count():] {
				act(g)
			}
			if got := show(g); got != states[8] {
				t.Fatalf("%d, %d: %s instead of %s", n, keep, got, states[8])
			}
		}
	}
}

// some answers whether any choice for a package holds for a pool: it tries all of them.
func some(g *Forge, p api.Pkg, pool []api.Pkg) bool {
	x, _ := g.stock.Recipe(p)
	fits := func(list []api.Pkg, d api.Dep) bool {
		return slices.ContainsFunc(list, func(q api.Pkg) bool { return q.Name == d.Name && span.Has(d.Range, q.Version) })
	}
	for set := range 1 << len(pool) {
		var with []api.Pkg
		needs, seen := slices.Clone(x.Build), map[string]int{}
		for i, q := range pool {
			if set>>i&1 == 1 {
				y, _ := g.stock.Recipe(q)
				with, needs = append(with, q), append(needs, y.Run...)
				seen[q.Name] = 1
			}
		}
		if len(seen) == len(with) && fits(pool, x.Tool) && !slices.ContainsFunc(needs, func(d api.Dep) bool { return !fits(with, d) }) {
			return true
		}
	}
	return false
}

// P5
func TestReached(t *testing.T) {
	r := rand.New(rand.NewSource(3))
	refused, planned := 0, 0
	for range 150 {
		g := open(t, ribbon.New(nil))
		must(t, g.Seed(pkg("a 1"), files()), g.Seed(pkg("b 1"), files()))
		for range 5 {
			input := func(word string) string {
				return word + " " + string("abcd"[r.Intn(4)]) + " " + []string{"*", "=1.0.0", ">=2.0.0"}[r.Intn(3)]
			}
			fields := []string{input("tool")}
			for _, word := range []string{"build", "run"} {
				if r.Intn(2) == 0 {
					fields = append(fields, input(word))
				}
			}
			g.Recipe(recipeText(fmt.Sprint(string("abcd"[r.Intn(4)]), " ", 1+r.Intn(3)), fields...))
		}
		var set []api.Pkg
		for more := true; more; {
			more = false
			for p := range g.Packs() {
				if !slices.Contains(set, p) && (g.stock.IsSeed(p) || some(g, p, set)) {
					set, more = append(set, p), true
				}
			}
		}
		for p := range g.Packs() {
			got, e := g.Plan(p)
			if (e == api.ErrNoBootstrap) == slices.Contains(set, p) {
				t.Fatalf("%v: %d, %v", p, e, set)
			}
			if e == api.ErrNoBootstrap {
				refused++
				rest := slices.DeleteFunc(slices.Collect(g.Packs()), func(q api.Pkg) bool { return slices.Contains(got.Less, q) })
				if !slices.Contains(got.Less, p) || slices.ContainsFunc(got.Less, func(q api.Pkg) bool { return some(g, q, rest) }) {
					t.Fatalf("%v: %v", p, got.Less)
				}
				continue
			}
			planned++
			stages := map[api.Pkg]int{}
			for _, x := range got.Entries {
				stages[x.Pkg] = x.Stage
				for _, q := range append(slices.Clone(x.Choice.With), x.Choice.Tool) {
					if n, ok := stages[q]; x.Stage > 0 && (!ok || n >= x.Stage) {
						t.Fatalf("%v: %v", p, x)
					}
				}
			}
			if _, ok := stages[p]; !ok {
				t.Fatalf("%v: %v", p, got)
			}
		}
	}
	if refused < 100 || planned < 100 {
		t.Errorf("only %d plans, %d refused", planned, refused)
	}
}
