package eval

import (
	"fmt"
	"math/rand"
	"slices"
	"strings"
	"testing"

	"sapling/api"
	"sapling/recipe"
)

func text(s string) api.Expr { return api.Expr{Kind: api.ExText, S: s} }
func name(s string) api.Expr { return api.Expr{Kind: api.ExName, S: s} }
func cat(kids ...api.Expr) api.Expr {
	return api.Expr{Kind: api.ExCat, Kids: kids}
}
func choice(kids ...api.Expr) api.Expr {
	return api.Expr{Kind: api.ExIf, Kids: kids}
}
func let(s string, kids ...api.Expr) api.Expr {
	return api.Expr{Kind: api.ExLet, S: s, Kids: kids}
}

// parse answers the expression of a text.
func parse(t *testing.T, s string) api.Expr {
	t.Helper()
	x, at, e := recipe.Parse("package " + s + " version v")
	if e != api.OK {
		t.Fatalf("%s: %d at %d", s, e, at)
	}
	return x.Name
}

// P13.1
func TestMeaning(t *testing.T) {
	for s, want := range map[string]struct {
		text  string
		begun int
	}{
		`"a"`: {"a", 1}, `""`: {"", 1}, `"a" + "b" + "c"`: {"abc", 4}, `let x = "a" in x + x`: {"aa", 5}, `if "a" = "b" then y else "c"`: {"c", 4},
		`if "a" = "a" then "b" else y`: {"b", 4}, `if "" = "" + "" then "b" else y`: {"b", 6}, `let x = "a" in let x = x + "b" in x + x`: {"abab", 9},
		`let x = "a" in (let x = "b" in x) + x`: {"ba", 7}, `let x = "a" in let y = "b" in x + y + x`: {"aba", 8},
		`let x = let y = "q" in y in x`: {"q", 5}, `(let x = "a" in "b") + "c"`: {"bc", 5}, `let x = "a" in if x = "a" then x else z`: {"a", 6},
		`let x = "a" in let y = x in let x = "b" in y + x`: {"ab", 9},
	} {
		if got, n, e := Eval(parse(t, s)); got != want.text || n != want.begun || e != api.OK {
			t.Errorf("%s: %q, %d, %d", s, got, n, e)
		}
	}
}

// P13.1
func TestErrors(t *testing.T) {
	for s, want := range map[string]struct {
		begun int
		e     api.Errno
	}{
		"x": {1, api.ErrName}, `"a" + x + "b"`: {3, api.ErrName}, "let x = x in x": {2, api.ErrName}, `(let x = "a" in x) + x`: {5, api.ErrName},
		`let x = "a" in y`: {3, api.ErrName}, `if x = y then "a" else "b"`: {2, api.ErrName}, `if "a" = y then "a" else "b"`: {3, api.ErrName},
		`if "a" = "a" then x else "b"`: {4, api.ErrName}, `let x = let y = "a" in y in y`: {5, api.ErrName},
	} {
		if got, n, e := Eval(parse(t, s)); got != "" || n != want.begun || e != want.e {
			t.Errorf("%s: %q, %d, %d", s, got, n, e)
		}
	}
	for i, x := range []api.Expr{{}, name("let"), cat(text("a")), choice(text("a")), let("x", text("a")), cat(name("x"), api.Expr{Kind: 9})} {
		if got, n, e := Eval(x); got != "" || n != 0 || e != api.ErrArg {
			t.Errorf("%d: %q, %d, %d", i, got, n, e)
		}
	}
}

// P13.1
func TestSizes(t *testing.T) {
	half, whole, over := text(strings.Repeat("x", 128)), text(strings.Repeat("x", 256)), text(strings.Repeat("x", 257))
	for i, c := range []struct {
		x    api.Expr
		n    int
		want api.Errno
	}{
		{whole, 1, api.OK}, {over, 1, api.ErrSize}, {cat(half, half), 3, api.OK}, {cat(half, half, text("")), 4, api.OK},
		{cat(half, half, text("y")), 4, api.ErrSize}, {cat(whole, whole, name("y")), 4, api.ErrName}, {cat(over, name("y")), 2, api.ErrSize},
		{let("x", half, cat(name("x"), name("x"))), 5, api.OK}, {let("x", whole, cat(name("x"), name("x"))), 5, api.ErrSize},
		{let("x", cat(whole, half), text("a")), 4, api.ErrSize}, {choice(over, over, text("a"), text("b")), 2, api.ErrSize},
		{choice(text("a"), text("b"), over, text("b")), 4, api.OK}, {let("x", over, text("a")), 2, api.ErrSize},
		{cat(cat(whole, text("y")), name("z")), 4, api.ErrSize},
	} {
		if got, n, e := Eval(c.x); n != c.n || e != c.want || e != api.OK && got != "" {
			t.Errorf("%d: %d bytes, %d, %d", i, len(got), n, e)
		}
	}
}

// P13.1
func TestTurns(t *testing.T) {
	empty := text("")
	sum := func(n int, more ...api.Expr) api.Expr {
		return cat(append(slices.Repeat([]api.Expr{empty}, n), more...)...)
	}
	for i, c := range []struct {
		x    api.Expr
		n    int
		want api.Errno
	}{
		{sum(999), 1000, api.OK}, {sum(1000), 1000, api.ErrSteps}, {sum(998, name("x")), 1000, api.ErrName}, {sum(999, name("x")), 1000, api.ErrSteps},
		{sum(4095), 1000, api.ErrSteps}, {sum(998, text("a")), 1000, api.OK}, {choice(sum(995), empty, empty, empty), 999, api.OK},
		{choice(sum(996), empty, empty, empty), 1000, api.OK}, {choice(sum(997), empty, empty, empty), 1000, api.ErrSteps},
		{choice(empty, text("a"), sum(2000), sum(995)), 999, api.OK}, {let("x", empty, sum(998)), 1000, api.ErrSteps}, {let("x", empty, sum(997)), 1000, api.OK},
	} {
		if _, n, e := Eval(c.x); n != c.n || e != c.want {
			t.Errorf("%d: %d, %d instead of %d, %d", i, n, e, c.n, c.want)
		}
	}
	deep := name("x")
	for i := range 63 {
		deep = let([]string{"x", "y"}[i%2], text(fmt.Sprint(i)), deep)
	}
	if got, n, e := Eval(deep); got != "0" || n != 127 || e != api.OK {
		t.Errorf("64 within one another: %q, %d, %d", got, n, e)
	}
}

// random answers an expression over the names that it may see.
func random(r *rand.Rand, within int) api.Expr {
	kind := 1 + r.Intn(5)
	if within > 4 {
		kind = 1 + r.Intn(2)
	}
	kid := func() api.Expr { return random(r, within+1) }
	switch kind {
	case api.ExName:
		return name(string("xyz"[r.Intn(3)]))
	case api.ExCat:
		return cat(kid(), kid())
	case api.ExIf:
		return choice(kid(), kid(), kid(), kid())
	case api.ExLet:
		return let(string("xyz"[r.Intn(3)]), kid(), kid())
	}
	return text(string("ab"[r.Intn(2)]))
}

// put answers an expression with a text in the place of a name, where that isn't another one's.
func put(x api.Expr, s, word string) api.Expr {
	if x.Kind == api.ExName && x.S == s {
		return text(word)
	}
	out := api.Expr{Kind: x.Kind, S: x.S}
	for i, k := range x.Kids {
		if x.Kind != api.ExLet || x.S != s || i == 0 {
			k = put(k, s, word)
		}
		out.Kids = append(out.Kids, k)
	}
	return out
}

// P13.2
func TestSumsAndLets(t *testing.T) {
	r := rand.New(rand.NewSource(1))
	good := 0
	for range 5000 {
		a, b := random(r, 0), random(r, 0)
		for _, s := range []string{"x", "y"} {
			if r.Intn(4) > 0 {
				a, b = let(s, text("s"), a), let(s, text("t"), b)
			}
		}
		x, n, e := Eval(a)
		y, k, f := Eval(b)
		both, count, g := Eval(cat(a, b))
		if e == api.OK && f == api.OK && len(x+y) <= 256 && n+k < 1000 {
			good++
			if both != x+y || count != n+k+1 || g != api.OK {
				t.Fatalf("%v + %v: %q, %d, %d", a, b, both, count, g)
			}
		}
		if e != api.OK && (both != "" || g != e || count != n+1) {
			t.Fatalf("%v + %v: %q, %d, %d", a, b, both, count, g)
		}
		got, _, g := Eval(let("z", a, b))
		if e == api.OK && len(x) <= 256 {
			want, _, h := Eval(put(b, "z", x))
			if got != want || g != h {
				t.Fatalf("let z = %v in %v: %q, %d instead of %q, %d", a, b, got, g, want, h)
			}
		}
	}
	if good < 500 {
		t.Errorf("only %d sums", good)
	}
}

// source answers the recipe of a text.
func source(t *testing.T, s string) api.Source {
	t.Helper()
	x, at, e := recipe.Parse(s)
	if e != api.OK {
		t.Fatalf("%s: %d at %d", s, e, at)
	}
	return x
}

func showDeps(list []api.Dep) string {
	var out []string
	for _, d := range list {
		out = append(out, fmt.Sprint(d.Name, d.Range))
	}
	return strings.Join(out, " ")
}

// P13.1
func TestRecipe(t *testing.T) {
	got, e := Recipe(source(t, `package "a" + "b" version let x = "1" in x + "." + x + ".0" build "lib" "^1.2.0 | =3.0.0" tool "cc" "*" run "rt" "none" build "abc" "=1.0.0" run "lib" "*"`))
	want := "ab [1 1 0] cc[{0 1000000000}] / lib[{1002000 2000000} {3000000 3000001}] abc[{1000000 1000001}] / rt[] lib[{0 1000000000}]"
	if s := fmt.Sprint(got.Pkg.Name, " ", got.Pkg.Version, " ", showDeps([]api.Dep{got.Tool}), " / ", showDeps(got.Build), " / ", showDeps(got.Run)); s != want || e != api.OK {
		t.Errorf("%s, %d", s, e)
	}
}

// P13.1
func TestRecipeErrors(t *testing.T) {
	head := `package "a" version "1.0.0" `
	many := func(word string, n int) string {
		s := ""
		for i := range n {
			s += fmt.Sprintf(`%s "n%d" "*" `, word, i)
		}
		return s
	}
	for s, want := range map[string]api.Errno{
		head: api.ErrNone, head + `tool "cc" "*"`: api.OK, `package x version "1.0.0"`: api.ErrName, `package "A" version x + y`: api.ErrName, `package "" version "1"`: api.ErrName,
		`package "a/b" version "1.0.0" tool "cc" "*"`: api.ErrName, `package "a" version "1.0"`: api.ErrVersion, `package "a" version y`: api.ErrName, `package "a" version "1.0.0 "`: api.ErrVersion,
		head + `tool x "*"`: api.ErrName, head + `tool "C" "x"`: api.ErrName, head + `tool "cc" x`: api.ErrName, head + `tool "cc" "x"`: api.ErrRange, head + `tool "cc" ""`: api.ErrRange,
		head + `build "C" "*"`: api.ErrName, head + `tool "cc" "*" tool "dd" "*"`: api.ErrTwice, head + `tool "cc" "*" tool "dd" "x"`: api.ErrRange, head + `tool "cc" "*" tool "D" "*"`: api.ErrName,
		head + `tool "cc" "*" build "cc" "*" run "cc" "*"`: api.OK, head + `tool "cc" "*" build "x" "*" build "x" "*"`: api.ErrTwice, head + `run "x" "*" run "y" "*" run "x" "none"`: api.ErrTwice,
		head + `run "x" "*" build "x" "*"`: api.ErrNone, head + many("build", 8) + `tool "cc" "*"`: api.OK, head + many("build", 9) + `tool "cc" "*"`: api.ErrMany,
		head + many("run", 9): api.ErrMany, head + many("run", 8): api.ErrNone, head + many("build", 8) + many("run", 8): api.ErrNone, head + many("run", 8) + `run "n0" "*"`: api.ErrTwice,
		head + many("build", 8) + many("run", 8) + `tool "cc" "*"`: api.OK, head + many("build", 8) + `build "x" y`: api.ErrName, head + many("build", 8) + `build "x" "y"`: api.ErrRange,
		head + `tool "cc" "` + strings.Repeat("* ", 127) + `* "`: api.ErrRange, head + `tool "cc" "` + strings.Repeat("* ", 128) + `*"`: api.ErrSize,
	} {
		got, e := Recipe(source(t, s))
		if e != want || e != api.OK && (got.Pkg != (api.Pkg{}) || got.Tool.Name != "" || len(got.Tool.Range)+len(got.Build)+len(got.Run) > 0) {
			t.Errorf("%s: %v, %d instead of %d", s, got, e, want)
		}
	}
	ok, v := text("a"), text("1.0.0")
	field := api.Field{Kind: api.FdTool, Name: text("cc"), Range: text("*")}
	gaps := "=0.0.0 | =0.0.2 | =0.0.4 | =0.0.6 | =0.0.8 | =0.1.0 | =0.1.2 | =0.1.4 | =0.1.6 | =0.1.8 | =0.2.0 | =0.2.2 | =0.2.4 | =0.2.6 | =0.2.8 | =0.3.0 | =0.3.2"
	for i, c := range []struct {
		x    api.Source
		want api.Errno
	}{
		{api.Source{}, api.ErrArg}, {api.Source{Name: ok}, api.ErrArg}, {api.Source{Fields: make([]api.Field, 21)}, api.ErrMany},
		{api.Source{Name: ok, Version: v, Fields: make([]api.Field, 20)}, api.ErrArg}, {api.Source{Name: text("A"), Version: api.Expr{}}, api.ErrName},
		{api.Source{Name: ok, Version: v, Fields: []api.Field{{Kind: 4, Name: name("x"), Range: name("x")}}}, api.ErrArg},
		{api.Source{Name: ok, Version: v, Fields: []api.Field{{Kind: 2, Range: name("x")}}}, api.ErrArg},
		{api.Source{Name: ok, Version: v, Fields: []api.Field{{Kind: 2, Name: text("A")}}}, api.ErrName},
		{api.Source{Name: ok, Version: v, Fields: []api.Field{{Kind: 2, Name: ok}}}, api.ErrArg},
		{api.Source{Name: ok, Version: v, Fields: []api.Field{field, {Kind: 1, Name: ok, Range: text(gaps)}}}, api.ErrMany},
		{api.Source{Name: ok, Version: v, Fields: []api.Field{field, {}}}, api.ErrArg},
		{api.Source{Name: ok, Version: v, Fields: []api.Field{{Kind: 1, Name: cat(slices.Repeat([]api.Expr{text("")}, 1000)...), Range: v}}}, api.ErrSteps},
		{api.Source{Name: ok, Version: v, Fields: []api.Field{{Kind: 1, Name: text(strings.Repeat("a", 257)), Range: v}}}, api.ErrSize},
	} {
		if got, e := Recipe(c.x); e != c.want || got.Pkg != (api.Pkg{}) {
			t.Errorf("%d: %v, %d instead of %d", i, got, e, c.want)
		}
	}
}

// P13.3
func TestNewMemory(t *testing.T) {
	x := source(t, `package "a" version "1.0.0" tool "cc" "*" build "b" "*" build "c" "*" run "d" "*"`)
	before, _ := recipe.Print(x)
	one, _ := Recipe(x)
	two, _ := Recipe(x)
	one.Tool.Range[0].Lo, one.Build[0].Range[0].Lo, one.Build[1].Name, one.Run[0].Name = 7, 8, "x", "y"
	if two.Tool.Range[0].Lo != 0 || two.Build[0].Range[0].Lo != 0 || two.Build[1].Name != "c" || two.Run[0].Name != "d" || one.Build[1].Range[0].Lo != 0 {
		t.Errorf("two answers share memory: %v", two)
	}
	if after, _ := recipe.Print(x); after != before {
		t.Error("what was handed in is changed")
	}
	kids := append(make([]api.Expr, 0, 4), text("a"), text("b"))
	Eval(cat(kids...))
	if kids[:3][2].Kind != 0 {
		t.Error("spare room is changed")
	}
}
