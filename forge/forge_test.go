package forge

import (
	"fmt"
	"slices"
	"strings"
	"testing"

	"sapling/api"
	"sapling/asm"
	"sapling/cas"
	"sapling/code"
	"sapling/log"
	"sapling/ribbon"
	"sapling/sexp"
	"sapling/tree"
)

// pkg answers the package of a text like app 1.
func pkg(s string) api.Pkg {
	name, v, _ := strings.Cut(s, " ")
	return api.Pkg{Name: name, Version: api.Version{int(v[0] - '0'), 0, 0}}
}

// prog answers the bytes of a program whose lines are parted by "; ".
func prog(s string) string {
	p, at, e := asm.Assemble(strings.ReplaceAll(s, "; ", "\n"))
	if e != api.OK {
		panic(fmt.Sprint(s, " ", at, " ", e))
	}
	out, _ := code.Encode(p)
	return out
}

// files answers a tree from pairs of a path and its bytes.
func files(pairs ...string) api.Tree {
	var list []api.File
	for i := 0; i < len(pairs); i += 2 {
		list = append(list, api.File{Path: pairs[i], Data: pairs[i+1]})
	}
	t, e := tree.Make(list)
	if e != api.OK {
		panic(pairs)
	}
	return t
}

// tool answers a tree with a program.
func tool(s string) api.Tree { return files("tool", prog(s)) }

// copyA writes in/src/a to a.
const copyA = `text "a"; text "in/src/a"; read; pop; write`

// bytesOf answers a tree's bytes.
func bytesOf(t api.Tree) string {
	s, _ := tree.Encode(t)
	return s
}

func open(t *testing.T, r *ribbon.Ribbon) *Forge {
	t.Helper()
	g, e := Open(r, 64)
	if e != api.OK {
		t.Fatalf("Open: %d", e)
	}
	return g
}

func must(t *testing.T, list ...api.Errno) {
	t.Helper()
	for i, e := range list {
		if e != api.OK {
			t.Fatalf("%d: %d", i, e)
		}
	}
}

// recipes lets recipes come in.
func recipes(t *testing.T, g *Forge, list ...string) {
	t.Helper()
	for _, s := range list {
		if at, e := g.Recipe(s); at != 0 || e != api.OK {
			t.Fatalf("%s: %d at %d", s, e, at)
		}
	}
}

// recipe answers the text of a recipe: its fields are words, names and ranges, parted by blanks.
func recipeText(p string, fields ...string) string {
	name, v, _ := strings.Cut(p, " ")
	s := fmt.Sprintf("package %q version \"%s.0.0\"", name, v)
	for _, f := range fields {
		part := strings.SplitN(f, " ", 3)
		s += fmt.Sprintf(" %s %q %q", part[0], part[1], part[2])
	}
	return s
}

// example is that of the chapter, sealed, and app 1 wanted.
func example(t *testing.T, r *ribbon.Ribbon) *Forge {
	t.Helper()
	g := open(t, r)
	must(t, g.Seed(pkg("cc 1"), tool(copyA)), g.Seed(pkg("src 1"), files("a", "x")))
	recipes(t, g, recipeText("app 1", "tool cc *", "build src *"))
	must(t, g.Seal(), g.Want(pkg("app 1")))
	return g
}

// names answers packages as a text.
func names(over func(func(api.Pkg) bool)) string {
	var out []string
	for p := range over {
		out = append(out, fmt.Sprint(p.Name, p.Version[0]))
	}
	return strings.Join(out, " ")
}

func audit(g *Forge, p string) string {
	var out []string
	for r := range g.Audit(pkg(p)) {
		out = append(out, fmt.Sprint(r.Pkg.Name, r.Pkg.Version[0], ":", r.Rank))
	}
	return strings.Join(out, " ")
}

// show answers all that is to be seen of a manager.
func show(g *Forge) string {
	out := fmt.Sprint("records ", g.Count(), "; ready ", names(g.Ready()), "; running ", names(g.Running()))
	for p := range g.Packs() {
		t, ok := g.Object(p)
		fate, failed := g.Fate(p)
		out += fmt.Sprint("; ", p.Name, p.Version[0], " ", ok, " ", bytesOf(t), " ", fate, " ", failed, " ", audit(g, fmt.Sprint(p.Name, " ", p.Version[0])))
	}
	return out
}

// P24.1
func TestExample(t *testing.T) {
	g, app := example(t, ribbon.New(nil)), pkg("app 1")
	if names(g.Ready()) != "app1" || names(g.Running()) != "" || names(g.Packs()) != "app1 cc1 src1" || g.Count() != 5 {
		t.Errorf("%s", show(g))
	}
	if e := g.Start(app); e != api.OK || names(g.Ready()) != "" || names(g.Running()) != "app1" || g.Starts(app) != 1 || g.Count() != 5 {
		t.Errorf("%d, %s", e, show(g))
	}
	if n, done, e := g.Step(app, 2); n != 2 || done || e != api.OK {
		t.Errorf("%d, %t, %d", n, done, e)
	}
	if _, ok := g.Object(app); ok || g.Check(app) != api.ErrNone {
		t.Error("it is there ahead of its end")
	}
	if n, done, e := g.Step(app, 4096); n != 3 || !done || e != api.OK || g.Count() != 6 || names(g.Running())+names(g.Ready()) != "" {
		t.Errorf("%d, %t, %d, %s", n, done, e, show(g))
	}
	if got, ok := g.Object(app); !ok || bytesOf(got) != "((1:a1:x))" || g.Check(app) != api.OK || g.Check(pkg("cc 1")) != api.OK {
		t.Errorf("%v, %t", got, ok)
	}
	if got := audit(g, "app 1"); got != "app1:1 cc1:0 src1:0" {
		t.Errorf("%s", got)
	}
	r, _ := first(g.Audit(app))
	if r.Out != cas.New(64).Key("((1:a1:x))") || r.Choice.Tool != pkg("cc 1") || !slices.Equal(r.Choice.With, []api.Pkg{pkg("src 1")}) {
		t.Errorf("%v", r)
	}
	if e, ok := g.Fate(app); e != api.OK || ok || g.Start(app) != api.ErrNone || g.All() != api.OK || g.Starts(app) != 1 {
		t.Error("it is there, and nothing more")
	}
	if got, e := g.Plan(app); e != api.OK || len(got.Entries) != 3 || got.Entries[2].Pkg != app || got.Entries[2].Stage != 1 {
		t.Errorf("%v, %d", got, e)
	}
}

func first[T any](over func(func(T) bool)) (out T, ok bool) {
	for x := range over {
		return x, true
	}
	return out, false
}

// P24.1
func TestNil(t *testing.T) {
	var g *Forge
	p := pkg("a 1")
	at, e := g.Recipe("!")
	n, done, f := g.Step(p, 5)
	got, h := g.Plan(p)
	for i, e := range []api.Errno{e, f, h, g.Seed(p, api.Tree{Files: []api.File{{}}}), g.Seal(), g.Want(p), g.Start(p), g.All(), g.Check(p)} {
		if e != api.ErrNil {
			t.Errorf("%d: %d", i, e)
		}
	}
	_, has := g.Object(p)
	fate, failed := g.Fate(p)
	if at != 0 || n != 0 || done || len(got.Entries)+len(got.Less) > 0 || has || failed || fate != 0 || g.Starts(p) != 0 || show(g) != "records 0; ready ; running " || audit(g, "a 1") != "" {
		t.Error("a nil manager has something")
	}
}

// P24.1
func TestSeedErrors(t *testing.T) {
	r := ribbon.New(nil)
	g := open(t, r)
	a, bad := files("a", ""), api.Tree{Files: []api.File{{Path: "A"}}}
	big := strings.Repeat("x", 2048)
	var list []api.File
	for i := range 32 {
		list = append(list, api.File{Path: fmt.Sprint("f", i), Data: big[:2036]})
	}
	large, _ := tree.Make(list)
	list[0].Data = big
	whole, _ := tree.Make(list)
	if n := len(bytesOf(large)); n < 65500 || n > 65536 {
		t.Fatalf("%d bytes", n)
	}
	must(t, g.Seed(pkg("a 1"), a), g.Seed(pkg("same 1"), a))
	for i, c := range []struct {
		p    api.Pkg
		t    api.Tree
		want api.Errno
	}{
		{api.Pkg{}, bad, api.ErrArg}, {pkg("x 1"), bad, api.ErrArg}, {pkg("a 1"), whole, api.ErrLong}, {pkg("A 1"), a, api.ErrArg}, {pkg("a 1"), a, api.ErrTwice},
		{pkg("x 1"), large, api.ErrLong}, {pkg("a 1"), large, api.ErrTwice},
	} {
		if e := g.Seed(c.p, c.t); e != c.want || g.Count() != 2 || names(g.Packs()) != "a1 same1" {
			t.Errorf("%d: %d instead of %d", i, e, c.want)
		}
	}
	for i := range 6 {
		must(t, g.Seed(pkg(fmt.Sprint("s ", i)), a))
	}
	if g.Seed(pkg("x 1"), a) != api.ErrMany || g.Count() != 8 {
		t.Error("too many seeds")
	}
	must(t, g.Seal())
	if g.Seed(pkg("x 1"), bad) != api.ErrArg || g.Seed(api.Pkg{}, a) != api.ErrState {
		t.Error("it is sealed")
	}
	r.Off(0)
	if g.Seed(api.Pkg{}, bad) != api.ErrDown {
		t.Error("the power is off")
	}
	narrow, _ := Open(ribbon.New(nil), 0)
	must(t, narrow.Seed(pkg("a 1"), a), narrow.Seed(pkg("b 1"), a))
	if e := narrow.Seed(pkg("c 1"), files()); e != api.ErrKeyClash || names(narrow.Packs()) != "a1 b1" || narrow.Count() != 2 {
		t.Errorf("two trees of one key: %d", e)
	}
	if e := narrow.Seed(pkg("a 1"), files()); e != api.ErrTwice {
		t.Errorf("%d", e)
	}
}

// P24.1
func TestRecipeErrors(t *testing.T) {
	r := ribbon.New(nil)
	g := open(t, r)
	must(t, g.Seed(pkg("cc 1"), files()))
	for i := range 30 {
		recipes(t, g, recipeText(fmt.Sprintf("r%d 1", i), "tool cc *"))
	}
	before := show(g)
	good := recipeText("x 1", "tool cc *")
	for s, want := range map[string]struct {
		at int
		e  api.Errno
	}{
		"package a version": {17, api.ErrSyntax}, strings.Repeat("x", 4097): {0, api.ErrLong}, "package a version b": {0, api.ErrName}, `package "a" version "1"`: {0, api.ErrVersion},
		`package "a" version "1.0.0"`: {0, api.ErrNone}, recipeText("cc 1", "tool cc *"): {0, api.ErrTwice}, recipeText("r5 1", "tool cc *"): {0, api.ErrTwice},
		recipeText("x 1", "tool cc *", "tool cc *"): {0, api.ErrTwice}, recipeText("x 1", "tool cc what"): {0, api.ErrRange}, good + "!": {len(good), api.ErrSyntax},
	} {
		if at, e := g.Recipe(s); at != want.at || e != want.e || show(g) != before {
			t.Errorf("%.40s: %d at %d", s, e, at)
		}
	}
	recipes(t, g, recipeText("y 1", "tool cc *"), recipeText("z 1", "tool cc *"))
	if at, e := g.Recipe(good); at != 0 || e != api.ErrMany {
		t.Errorf("too many: %d at %d", e, at)
	}
	must(t, g.Seal())
	if at, e := g.Recipe("package a version"); at != 0 || e != api.ErrState {
		t.Errorf("it is sealed: %d at %d", e, at)
	}
	r.Off(0)
	if at, e := g.Recipe("package a version"); at != 0 || e != api.ErrDown {
		t.Errorf("the power is off: %d at %d", e, at)
	}
	r = ribbon.New(nil)
	g = open(t, r)
	r.Arm(1, 0)
	if at, e := g.Recipe(good); at != 0 || e != api.ErrDown || names(g.Packs()) != "" {
		t.Errorf("the power goes: %d at %d", e, at)
	}
}

// P24.1
func TestSealAndWant(t *testing.T) {
	r := ribbon.New(nil)
	g := open(t, r)
	must(t, g.Seed(pkg("cc 1"), files()))
	recipes(t, g, recipeText("x 1", "tool x *"), recipeText("a 1", "tool cc *"))
	if g.Want(pkg("a 1")) != api.ErrState || g.Start(pkg("a 1")) != api.ErrState || g.Start(pkg("no 1")) != api.ErrState || g.All() != api.OK || names(g.Ready()) != "" {
		t.Error("it isn't sealed")
	}
	must(t, g.Seal())
	if g.Seal() != api.ErrState {
		t.Error("it is sealed")
	}
	for p, want := range map[string]api.Errno{"no 1": api.ErrNone, "x 1": api.ErrNoBootstrap, "a 1": api.OK, "cc 1": api.OK, "A 9": api.ErrNone} {
		if e := g.Want(pkg(p)); e != want {
			t.Errorf("%s: %d", p, e)
		}
	}
	if g.Want(pkg("a 1")) != api.ErrTwice || g.Want(pkg("x 1")) != api.ErrNoBootstrap || g.Count() != 6 || names(g.Ready()) != "a1" {
		t.Errorf("%s", show(g))
	}
	if got, e := g.Plan(pkg("x 1")); e != api.ErrNoBootstrap || !slices.Equal(got.Less, []api.Pkg{pkg("x 1")}) {
		t.Errorf("%v, %d", got, e)
	}
	if _, e := g.Plan(pkg("no 1")); e != api.ErrNone {
		t.Errorf("%d", e)
	}
	before := show(g)
	r.Off(0)
	n, done, e := g.Step(pkg("a 1"), 5)
	if n != 0 || done {
		t.Errorf("off: %d, %t", n, done)
	}
	for i, e := range []api.Errno{e, g.Seal(), g.Want(pkg("no 1")), g.Start(pkg("no 1")), g.All()} {
		if e != api.ErrDown {
			t.Errorf("off: %d: %d", i, e)
		}
	}
	if show(g) != before {
		t.Errorf("%s instead of %s", show(g), before)
	}
}

// P24.1
func TestBudget(t *testing.T) {
	g := open(t, ribbon.New(nil))
	must(t, g.Seed(pkg("cc 1"), files()))
	var build []string
	for _, name := range []string{"a", "b", "c", "d", "e", "f", "g"} {
		for v := 1; v < 5 && len(build) < 7; v++ {
			recipes(t, g, recipeText(fmt.Sprint(name, " ", v), "tool cc *"))
		}
		build = append(build, "build "+name+" *")
	}
	recipes(t, g, recipeText("top 1", append(build, "tool cc *", "build no *")...))
	if e := g.Seal(); e != api.ErrBudget || g.Want(pkg("a 1")) != api.ErrState || g.Count() != 30 {
		t.Errorf("%d, %d records", e, g.Count())
	}
	if _, e := g.Plan(pkg("cc 1")); e != api.ErrBudget {
		t.Errorf("%d", e)
	}
}

// one answers a manager with the tool cc, the seed src, and app, which is built by cc with src, wanted.
func one(t *testing.T, r *ribbon.Ribbon, width int, cc, src api.Tree) *Forge {
	t.Helper()
	g, e := Open(r, width)
	must(t, e, g.Seed(pkg("cc 1"), cc), g.Seed(pkg("src 1"), src))
	recipes(t, g, recipeText("app 1", "tool cc *", "build src *"), recipeText("more 1", "tool app *"))
	must(t, g.Seal(), g.Want(pkg("more 1")))
	return g
}

// P24.1
func TestBuildsThatComeToNothing(t *testing.T) {
	var many []string
	for i := range 31 {
		many = append(many, fmt.Sprint("f", i), "")
	}
	deep := files("1/2/3/4/5/6/7/8", "")
	big := files("a", strings.Repeat("x", 2048))
	fill := `x:; load 0; push 1; add; dup; store 0; str; text "in/src/a"; read; pop; write; load 0; push 32; less; not; zero x`
	for i, c := range []struct {
		cc, src api.Tree
		start   api.Errno
		step    api.Errno
		n       int
	}{
		{files(), files(), api.ErrCode, 0, 0}, {files("tool", ""), files(), api.ErrCode, 0, 0}, {files("tool", "()"), files(), api.ErrCode, 0, 0},
		{files("a/tool", prog("halt")), files(), api.ErrCode, 0, 0}, {files("tool", "((4:jump1:1))"), deep, api.ErrCode, 0, 0},
		{tool("halt"), deep, api.ErrPath, 0, 0}, {tool("halt"), files(many...), 0, 0, 1}, {tool("push 1; push 0; div"), files(), 0, api.ErrDiv, 3},
		{tool("x:; jump x"), files(), 0, api.ErrFuel, 4096}, {tool("fail 7"), files(), 0, api.ErrFail, 1}, {tool(`text "A"; dup; write`), files(), 0, api.ErrPath, 3},
		{tool(fill), big, 0, api.ErrLong, 32 * 15},
	} {
		r := ribbon.New(nil)
		g, app := one(t, r, 64, c.cc, c.src), pkg("app 1")
		if e := g.Start(app); e != c.start {
			t.Errorf("%d: Start: %d", i, e)
		}
		if c.start == api.OK {
			if n, done, e := g.Step(app, 1<<40); n != c.n || !done || e != c.step {
				t.Errorf("%d: Step: %d, %t, %d", i, n, done, e)
			}
		}
		want := max(c.start, c.step)
		if e, failed := g.Fate(app); e != want || failed != (want != api.OK) || names(g.Running()) != "" || g.Start(app) != api.ErrNone {
			t.Errorf("%d: %d, %t", i, e, failed)
		}
		if _, ok := g.Object(app); ok == (want != api.OK) || ok != (audit(g, "app 1") != "") || ok != (g.Check(app) == api.OK) || ok != (names(g.Ready()) == "more1") {
			t.Errorf("%d: %s", i, show(g))
		}
		if g.Starts(app) != min(c.n, 1) {
			t.Errorf("%d: %d starts", i, g.Starts(app))
		}
		if again := open(t, r); show(again) != show(g) {
			t.Errorf("%d: %s instead of %s", i, show(again), show(g))
		}
	}
}

// P24.1
func TestTooLongForAnEvent(t *testing.T) {
	// The tree's bytes are at most 65536, but not those of the event.
	fill := `x:; load 0; push 1; add; dup; store 0; str; text "in/src/a"; read; pop; write; load 0; push 32; less; not; zero x`
	for size, want := range map[int]api.Errno{2036: api.OK, 2037: api.ErrLong, 2048: api.ErrLong} {
		g := one(t, ribbon.New(nil), 64, tool(fill), files("a", strings.Repeat("x", size)))
		must(t, g.Start(pkg("app 1")))
		if _, done, e := g.Step(pkg("app 1"), 9999); !done || e != want {
			t.Errorf("%d: %t, %d", size, done, e)
		}
		if e, failed := g.Fate(pkg("app 1")); e != want || failed != (want != api.OK) {
			t.Errorf("%d: %d, %t", size, e, failed)
		}
	}
}

// P24.1
func TestKeyClash(t *testing.T) {
	g, _ := Open(ribbon.New(nil), 0)
	must(t, g.Seed(pkg("cc 1"), tool("halt")))
	recipes(t, g, recipeText("app 1", "tool cc *"))
	must(t, g.Seal(), g.Want(pkg("app 1")), g.Start(pkg("app 1")))
	if n, done, e := g.Step(pkg("app 1"), 9); n != 1 || !done || e != api.ErrKeyClash {
		t.Errorf("%d, %t, %d", n, done, e)
	}
	if e, failed := g.Fate(pkg("app 1")); e != api.ErrKeyClash || !failed {
		t.Errorf("%d, %t", e, failed)
	}
	// Of one bit: two seeds that have the two keys, and a build whose tree has one of them, too.
	a, b := files("a", ""), files()
	for i := 0; b.Files == nil; i++ {
		if x := files("b", fmt.Sprint(i)); cas.New(1).Key(bytesOf(x)) != cas.New(1).Key(bytesOf(a)) {
			b = x
		}
	}
	narrow, _ := Open(ribbon.New(nil), 1)
	if narrow.Seed(pkg("a 1"), a) != api.OK || narrow.Seed(pkg("b 1"), b) != api.OK || narrow.Seed(pkg("c 1"), files("c", "")) != api.ErrKeyClash {
		t.Error("two keys")
	}
}

// P24.1
func TestStartAndStepErrors(t *testing.T) {
	g := open(t, ribbon.New(nil))
	must(t, g.Seed(pkg("cc 1"), tool("x:; jump x")), g.Seed(pkg("bad 1"), files()))
	for i := range 9 {
		recipes(t, g, recipeText(fmt.Sprintf("n%d 1", i), "tool cc *"))
	}
	recipes(t, g, recipeText("late 1", "tool cc *", "build n0 *"), recipeText("never 1", "tool bad *"), recipeText("idle 1", "tool cc *"))
	must(t, g.Seal(), g.Want(pkg("late 1")), g.Want(pkg("never 1")))
	for i := range 9 {
		if e := g.Want(pkg(fmt.Sprintf("n%d 1", i))); e != api.OK {
			t.Fatal(e)
		}
	}
	if got := names(g.Ready()); got != "n01 n11 n21 n31 n41 n51 n61 n71 n81 never1" {
		t.Errorf("%s", got)
	}
	if n, done, e := g.Step(pkg("n0 1"), 5); n != 0 || done || e != api.ErrNone {
		t.Errorf("%d, %t, %d", n, done, e)
	}
	for i := 8; i > 0; i-- {
		must(t, g.Start(pkg(fmt.Sprintf("n%d 1", i))))
	}
	for p, want := range map[string]api.Errno{"n0 1": api.ErrMany, "never 1": api.ErrMany, "n3 1": api.ErrNone, "late 1": api.ErrNone, "idle 1": api.ErrNone, "cc 1": api.ErrNone, "no 1": api.ErrNone} {
		if e := g.Start(pkg(p)); e != want {
			t.Errorf("%s: %d", p, e)
		}
	}
	if got := names(g.Running()); got != "n11 n21 n31 n41 n51 n61 n71 n81" || names(g.Ready()) != "n01 never1" {
		t.Errorf("%s", got)
	}
	if n, done, e := g.Step(pkg("n3 1"), 5000); n != 4096 || !done || e != api.ErrFuel {
		t.Errorf("%d, %t, %d", n, done, e)
	}
	if n, done, e := g.Step(pkg("n3 1"), 5); n != 0 || done || e != api.ErrNone {
		t.Errorf("%d, %t, %d", n, done, e)
	}
	if e := g.Start(pkg("never 1")); e != api.ErrCode || g.Starts(pkg("never 1")) != 0 {
		t.Errorf("%d", e)
	}
	if g.All() != api.OK || names(g.Ready())+names(g.Running()) != "" || g.Starts(pkg("n0 1")) != 1 || g.Starts(pkg("n3 1")) != 1 || g.Starts(pkg("late 1")) != 0 {
		t.Errorf("%s", show(g))
	}
	if _, failed := g.Fate(pkg("late 1")); failed {
		t.Error("what waits for a failure has failed")
	}
}

// P24.1
func TestReadyAndRunningAsTheGoingBegan(t *testing.T) {
	g := example(t, ribbon.New(nil))
	ready, running := g.Ready(), g.Running()
	for range 2 {
		for p := range ready {
			must(t, g.Start(p))
		}
		for p := range running {
			if _, _, e := g.Step(p, 1); e != api.OK {
				t.Error(e)
			}
		}
	}
	if names(ready) != "" || names(running) != "app1" {
		t.Errorf("%s, %s", names(ready), names(running))
	}
	must(t, g.All())
	if names(running) != "" {
		t.Errorf("%s", names(running))
	}
}

// P24.1
func TestFull(t *testing.T) {
	r := ribbon.New(nil)
	g := example(t, r)
	must(t, g.Start(pkg("app 1")))
	// The log of another one fills the ribbon, so that no record has room.
	b, _ := r.Read()
	if e := r.Write(make([]byte, 1<<20-len(b)-5)); e != api.OK {
		t.Fatal(e)
	}
	if n, done, e := g.Step(pkg("app 1"), 99); n != 5 || !done || e != api.ErrFull {
		t.Errorf("%d, %t, %d", n, done, e)
	}
	if names(g.Running()) != "" || names(g.Ready()) != "app1" || g.Starts(pkg("app 1")) != 1 {
		t.Errorf("%s", show(g))
	}
	if e := g.All(); e != api.ErrFull || g.Starts(pkg("app 1")) != 2 || names(g.Ready()) != "app1" {
		t.Errorf("%d, %s", e, show(g))
	}
	if g.Want(pkg("cc 1")) != api.ErrFull || g.Want(pkg("cc 1")) != api.ErrFull || g.Want(pkg("app 1")) != api.ErrTwice {
		t.Error("a want")
	}
}

// event answers the bytes of a record.
func record(atoms ...string) string {
	var list []api.Node
	for _, s := range atoms {
		list = append(list, sexp.Atom(s))
	}
	s, _ := sexp.Encode(sexp.List(list...))
	return s
}

// P24.1, P24.2
func TestOpen(t *testing.T) {
	cc, app := bytesOf(tool("halt")), recipeText("app 1", "tool cc *")
	head := []string{record("seed", "cc", "1.0.0", cc), record("recipe", app), record("recipe", recipeText("b 1", "tool app *")), record("seal"), record("want", "b", "1.0.0")}
	for i, c := range []struct {
		list []string
		want api.Errno
	}{
		{nil, api.OK}, {head, api.OK}, {[]string{""}, api.ErrForm}, {[]string{"()"}, api.ErrForm}, {[]string{"4:seal"}, api.ErrForm}, {[]string{"(4:seal"}, api.ErrForm},
		{[]string{"((4:seal))"}, api.ErrForm}, {[]string{record("seal")}, api.OK}, {[]string{record("seal", "")}, api.ErrForm}, {[]string{record("seal"), record("seal")}, api.ErrForm},
		{[]string{record("Seal")}, api.ErrForm}, {[]string{record("")}, api.ErrForm}, {[]string{"(4:seal())"}, api.ErrForm},
		{[]string{record("seed", "cc", "1.0.0")}, api.ErrForm}, {[]string{record("seed", "cc", "1.0.0", cc, "")}, api.ErrForm}, {[]string{record("seed", "cc", "1.0", cc)}, api.ErrForm},
		{[]string{record("seed", "CC", "1.0.0", cc)}, api.ErrForm}, {[]string{record("seed", "cc", "1.0.0", "x")}, api.ErrForm}, {[]string{record("seed", "cc", "1.0.0", "((1:A0:))")}, api.ErrForm},
		{[]string{head[0], head[0]}, api.ErrForm}, {[]string{record("seal"), head[0]}, api.ErrForm}, {[]string{record("seal"), head[1]}, api.ErrForm},
		{[]string{head[1]}, api.OK}, {[]string{head[1], head[1]}, api.ErrForm}, {[]string{record("recipe", "package")}, api.ErrForm}, {[]string{record("recipe", app, "")}, api.ErrForm},
		{[]string{record("recipe")}, api.ErrForm}, {[]string{record("want", "cc", "1.0.0")}, api.ErrForm}, {[]string{head[0], record("seal"), record("want", "cc", "1.0.0")}, api.OK},
		{append(slices.Clone(head), head[4]), api.ErrForm}, {append(slices.Clone(head), record("want", "no", "1.0.0")), api.ErrForm}, {append(slices.Clone(head), record("want", "b")), api.ErrForm},
		{append(slices.Clone(head), record("done", "app", "1.0.0", "()")), api.OK}, {append(slices.Clone(head), record("done", "app", "1.0.0", "(")), api.ErrForm},
		{append(slices.Clone(head), record("done", "b", "1.0.0", "()")), api.ErrForm}, {append(slices.Clone(head), record("done", "cc", "1.0.0", "()")), api.ErrForm},
		{append(slices.Clone(head[:4]), record("done", "app", "1.0.0", "()")), api.ErrForm}, {append(slices.Clone(head[:3]), record("done", "app", "1.0.0", "()")), api.ErrForm},
		{append(slices.Clone(head), record("fail", "app", "1.0.0", "42")), api.OK}, {append(slices.Clone(head), record("fail", "app", "1.0.0", "1")), api.OK}, {append(slices.Clone(head), record("fail", "app", "1.0.0", "9223372036854775807")), api.OK},
		{append(slices.Clone(head), record("fail", "app", "1.0.0", "9223372036854775808")), api.ErrForm}, {append(slices.Clone(head), record("fail", "app", "1.0.0", "0")), api.ErrForm},
		{append(slices.Clone(head), record("fail", "app", "1.0.0", "-1")), api.ErrForm}, {append(slices.Clone(head), record("fail", "app", "1.0.0", "01")), api.ErrForm},
		{append(slices.Clone(head), record("fail", "app", "1.0.0", "")), api.ErrForm}, {append(slices.Clone(head), record("fail", "b", "1.0.0", "42")), api.ErrForm},
		{append(slices.Clone(head), record("fail", "app", "1.0.0", "42"), record("done", "app", "1.0.0", "()")), api.ErrForm},
		{append(slices.Clone(head), record("done", "app", "1.0.0", "()"), record("fail", "app", "1.0.0", "42")), api.ErrForm},
		{append(slices.Clone(head), record("done", "app", "1.0.0", "()"), record("done", "b", "1.0.0", "()")), api.OK},
		{append(slices.Clone(head), record("done", "app", "1.0.0", "()"), record("fail", "b", "1.0.0", "42")), api.OK},
	} {
		r := ribbon.New(nil)
		l, _, _ := log.Open(r)
		for _, s := range c.list {
			must(t, l.Append(s))
		}
		g, e := Open(r, 64)
		if e != c.want || (g == nil) != (e != api.OK) || g.Count() != len(c.list) && e == api.OK {
			t.Errorf("%d: %d instead of %d", i, e, c.want)
		}
		if e == api.OK && names(g.Running()) != "" {
			t.Errorf("%d: %s", i, show(g))
		}
	}
	if g, e := Open(nil, 64); g != nil || e != api.ErrNil {
		t.Errorf("a nil ribbon: %d", e)
	}
	r := ribbon.New([]byte("\xff\xff\xff"))
	if g, e := Open(r, 64); g != nil || e != api.ErrForm {
		t.Errorf("no log: %d", e)
	}
	r.Off(0)
	if g, e := Open(r, 64); g != nil || e != api.ErrDown {
		t.Errorf("the power is off: %d", e)
	}
}

// P24.4
func TestCheck(t *testing.T) {
	head := []string{record("seed", "cc", "1.0.0", bytesOf(tool(copyA))), record("seed", "src", "1.0.0", "((1:a1:x))"), record("seed", "bad", "1.0.0", "()"), record("seed", "div", "1.0.0", bytesOf(tool("push 1; push 0; div"))),
		record("recipe", recipeText("app 1", "tool cc *", "build src *")), record("recipe", recipeText("b 1", "tool bad *")), record("recipe", recipeText("d 1", "tool div *")), record("seal"),
		record("want", "app", "1.0.0"), record("want", "b", "1.0.0"), record("want", "d", "1.0.0"), record("done", "b", "1.0.0", "()"), record("done", "d", "1.0.0", "()")}
	for s, want := range map[string]api.Errno{"((1:a1:x))": api.OK, "((1:a1:y))": api.ErrClash, "()": api.ErrClash} {
		r := ribbon.New(nil)
		l, _, _ := log.Open(r)
		for _, s := range append(head, record("done", "app", "1.0.0", s)) {
			must(t, l.Append(s))
		}
		g := open(t, r)
		if e := g.Check(pkg("app 1")); e != want {
			t.Errorf("%s: %d", s, e)
		}
		if g.Check(pkg("b 1")) != api.ErrClash || g.Check(pkg("d 1")) != api.ErrClash || g.Check(pkg("bad 1")) != api.OK || g.Check(pkg("no 1")) != api.ErrNone || g.Check(pkg("cc 2")) != api.ErrNone {
			t.Error("other packages")
		}
	}
}

// P24.5
func TestNewMemory(t *testing.T) {
	g, seed := open(t, ribbon.New(nil)), files("a", "x", "b", "y")
	must(t, g.Seed(pkg("src 1"), seed), g.Seed(pkg("cc 1"), tool(copyA)))
	seed.Files[0].Data = "changed"
	recipes(t, g, recipeText("app 1", "tool cc *", "build src *"))
	must(t, g.Seal(), g.Want(pkg("app 1")), g.All())
	before := show(g)
	for range 2 {
		got, _ := g.Object(pkg("src 1"))
		if bytesOf(got) != "((1:a1:x)(1:b1:y))" {
			t.Errorf("%v", got)
		}
		got.Files[0].Data = "changed"
		for r := range g.Audit(pkg("app 1")) {
			if len(r.Choice.With) > 0 {
				r.Choice.With[0].Name = "changed"
			}
		}
		p, _ := g.Plan(pkg("app 1"))
		for _, x := range p.Entries {
			if len(x.Choice.With) > 0 {
				x.Choice.With[0].Name = "changed"
			}
		}
	}
	if show(g) != before {
		t.Errorf("%s instead of %s", show(g), before)
	}
}
