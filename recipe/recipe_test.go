package recipe

import (
	"fmt"
	"math/rand"
	"reflect"
	"slices"
	"strings"
	"testing"

	"sapling/api"
)

func text(s string) api.Expr { return api.Expr{Kind: api.ExText, S: s} }
func name(s string) api.Expr { return api.Expr{Kind: api.ExName, S: s} }
func cat(kids ...api.Expr) api.Expr {
	return api.Expr{Kind: api.ExCat, Kids: kids}
}
func choice(kids ...api.Expr) api.Expr {
	return api.Expr{Kind: api.ExIf, Kids: kids}
}
func let(s string, kids ...api.Expr) api.Expr {
	return api.Expr{Kind: api.ExLet, S: s, Kids: kids}
}

// named answers a recipe with that name, the version v, and no fields.
func named(x api.Expr) api.Source { return api.Source{Name: x, Version: name("v")} }

// same answers whether two expressions are the same, empty lists and nil ones too.
func same(a, b api.Expr) bool {
	return a.Kind == b.Kind && a.S == b.S && slices.EqualFunc(a.Kids, b.Kids, same)
}

func sameSource(a, b api.Source) bool {
	return same(a.Name, b.Name) && same(a.Version, b.Version) && slices.EqualFunc(a.Fields, b.Fields, func(f, g api.Field) bool {
		return f.Kind == g.Kind && same(f.Name, g.Name) && same(f.Range, g.Range)
	})
}

// P12.1
func TestName(t *testing.T) {
	for _, s := range []string{"a", "z9_", "a0", "a5b", "tools", "x", "iff", "package_", "a" + strings.Repeat("_", 31)} {
		if !Name(s) {
			t.Errorf("%q is no name", s)
		}
	}
	for _, s := range []string{
		"", "_a", "9a", "A", "a-b", "a.b", "a b", "é", "aé", "a\xff", " a", "a" + strings.Repeat("_", 32),
		"package", "version", "tool", "build", "run", "let", "in", "if", "then", "else",
	} {
		if Name(s) {
			t.Errorf("%q is a name", s)
		}
	}
}

// nested answers so many expressions within one another.
func nested(n int) api.Expr {
	x := text("x")
	for range n - 1 {
		x = cat(x, text("y"))
	}
	return x
}

// P12.1
func TestGood(t *testing.T) {
	a := text("a")
	wide := cat(slices.Repeat([]api.Expr{a}, 4095)...)
	doubled := a
	for range 40 {
		doubled = cat(doubled, doubled)
	}
	for _, c := range []struct {
		x    api.Expr
		want bool
	}{
		{a, true}, {text(""), true}, {text("\x00\xff"), true}, {name("a"), true}, {cat(a, a), true}, {cat(a, a, a), true}, {choice(a, a, a, a), true},
		{let("s", a, a), true}, {cat(cat(a, a), choice(a, a, a, a)), true}, {nested(64), true}, {nested(65), false}, {nested(60000), false},
		{wide, true}, {cat(append(slices.Clone(wide.Kids), a)...), false}, {cat(wide, a), false}, {doubled, false},
		{api.Expr{}, false}, {api.Expr{Kind: 6}, false}, {api.Expr{Kind: -1, S: "a"}, false}, {name(""), false}, {name("if"), false}, {name("A"), false},
		{cat(), false}, {cat(a), false}, {api.Expr{Kind: api.ExCat, S: "x", Kids: []api.Expr{a, a}}, false}, {choice(a, a, a), false},
		{choice(a, a, a, a, a), false}, {api.Expr{Kind: api.ExIf, S: "x", Kids: []api.Expr{a, a, a, a}}, false}, {let("s", a), false},
		{let("s", a, a, a), false}, {let("", a, a), false}, {let("let", a, a), false}, {api.Expr{Kind: api.ExText, Kids: []api.Expr{a}}, false},
		{api.Expr{Kind: api.ExName, S: "a", Kids: []api.Expr{a}}, false}, {cat(a, api.Expr{}), false}, {let("s", a, choice(a, a, a, name("9"))), false},
		{api.Expr{Kind: api.ExText, Kids: []api.Expr{}}, true},
	} {
		if got := Good(c.x); got != c.want {
			t.Errorf("%.60v: %t", fmt.Sprint(c.x.Kind, c.x.S, len(c.x.Kids)), got)
		}
		if s, e := Print(named(c.x)); (e == api.ErrArg) == c.want || e != api.OK && s != "" {
			t.Errorf("%.60v: %d", fmt.Sprint(c.x.Kind, c.x.S, len(c.x.Kids)), e)
		}
	}
}

// P12.1
func TestParse(t *testing.T) {
	for s, want := range map[string]api.Expr{
		`"a"`: text("a"), `"\41\0a"`: text("A\n"), `""`: text(""), "x": name("x"), "(x)": name("x"), "((x))": name("x"),
		"x+y": cat(name("x"), name("y")), `x + "a" + y`: cat(name("x"), text("a"), name("y")), "(x + y) + z": cat(cat(name("x"), name("y")), name("z")),
		"x + (y + z)": cat(name("x"), cat(name("y"), name("z"))), "(x + y)": cat(name("x"), name("y")),
		"if x = y then z else w":                  choice(name("x"), name("y"), name("z"), name("w")),
		"if x + y = y then z else w + x":          choice(cat(name("x"), name("y")), name("y"), name("z"), cat(name("w"), name("x"))),
		"(if x = y then z else w) + x":            cat(choice(name("x"), name("y"), name("z"), name("w")), name("x")),
		"let x = y in x + x":                      let("x", name("y"), cat(name("x"), name("x"))),
		"z + let x = y in x + x":                  cat(name("z"), let("x", name("y"), cat(name("x"), name("x")))),
		"let x = let y = z in y in x":             let("x", let("y", name("z"), name("y")), name("x")),
		"if if x=y then z else w=x then y else z": choice(choice(name("x"), name("y"), name("z"), name("w")), name("x"), name("y"), name("z")),
		"x#note\n+#\"(\ny":                        cat(name("x"), name("y")),
	} {
		got, at, e := Parse("package " + s + " version v")
		if e != api.OK || at != 0 || !sameSource(got, named(want)) {
			t.Errorf("%s: %v, %d, %d", s, got, at, e)
		}
	}
	got, at, e := Parse("\t#x\npackage\"a\"version\"1.0.\"+\"0\"tool\"cc\"\"*\"build(x)(y)run if a=b then c else d(e)#end")
	want := api.Source{Name: text("a"), Version: cat(text("1.0."), text("0")), Fields: []api.Field{
		{Kind: api.FdTool, Name: text("cc"), Range: text("*")}, {Kind: api.FdBuild, Name: name("x"), Range: name("y")},
		{Kind: api.FdRun, Name: choice(name("a"), name("b"), name("c"), name("d")), Range: name("e")}}}
	if e != api.OK || at != 0 || !sameSource(got, want) {
		t.Errorf("%v, %d, %d", got, at, e)
	}
}

// P12.1: the fault stands where the mark @ is, which is taken out.
func TestFaults(t *testing.T) {
	head := `package "a" version "1" `
	open := func(n int) string { return strings.Repeat("(", n) }
	fields := strings.Repeat("tool x y ", 20)
	for s, want := range map[string]api.Errno{
		"package a version@": api.ErrSyntax, "@": api.ErrSyntax, "  # note@": api.ErrSyntax, "package@": api.ErrSyntax, "package a@": api.ErrSyntax,
		"package a \n # b@": api.ErrSyntax, "@version": api.ErrSyntax, "@Package a": api.ErrSyntax, "package @version": api.ErrSyntax,
		"package @package a": api.ErrSyntax, "package a @b": api.ErrSyntax, "package a version b @c": api.ErrSyntax, "package a version b@)": api.ErrSyntax,
		"package @1a version b": api.ErrSyntax, "package @_a version b": api.ErrSyntax, "package a@.b version c": api.ErrSyntax,
		"package @" + strings.Repeat("n", 33) + " version c": api.ErrSyntax, "package a version b tool@": api.ErrSyntax, "package a version b tool c@": api.ErrSyntax,
		"package a version b tool c @tool": api.ErrSyntax, "package a version b tool @=": api.ErrSyntax, "package a version b + @": api.ErrSyntax,
		"package (a @version b": api.ErrSyntax, "package a@) version b": api.ErrSyntax, "package (@) version b": api.ErrSyntax, "package @+ a": api.ErrSyntax,
		"package if a @then b": api.ErrSyntax, "package if a = b @else c": api.ErrSyntax, "package if a = b then c @version": api.ErrSyntax,
		"package let @in = a in b": api.ErrSyntax, `package let @"x" = a in b`: api.ErrSyntax, "package let x @a": api.ErrSyntax, "package let x = a @version": api.ErrSyntax,
		"package let x = a in @in": api.ErrSyntax, `package @"a`: api.ErrSyntax, `package @"\4" version b`: api.ErrSyntax, "package @\"\n\" version b": api.ErrSyntax,
		"package a @- b": api.ErrSyntax, "package a @é": api.ErrSyntax, "package a @\r": api.ErrSyntax, "package a version b tool c d @\xff": api.ErrSyntax,
		head + "@x": api.ErrSyntax, head + `@"x"`: api.ErrSyntax, head + "@in x y": api.ErrSyntax,
		// What can't be a token is told as soon as the one ahead of it is taken, not later.
		"package a @! then": api.ErrSyntax, "package if @!": api.ErrSyntax,
		head + fields + "@tool !": api.ErrMany, head + fields + "@!": api.ErrSyntax, head + fields + "@version": api.ErrSyntax, head + fields + "@run x y": api.ErrMany,
		head + fields[9:] + "run x y @build": api.ErrMany, head + fields + "@x": api.ErrSyntax,
		"package " + open(32) + "@x": api.ErrDeep, "package " + open(32) + "@(": api.ErrDeep, "package " + open(32) + `@"x" !`: api.ErrDeep, "package " + open(31) + "@": api.ErrSyntax,
		"package " + open(32) + "@if !": api.ErrDeep, "package " + open(32) + "@let": api.ErrDeep, "package " + open(32) + "@in": api.ErrSyntax, "package " + open(32) + "@)": api.ErrSyntax,
		"package " + open(32) + "@": api.ErrSyntax, "package " + open(32) + "@_x": api.ErrSyntax, "package " + open(31) + "a + (@b": api.ErrDeep,
		"package " + strings.Repeat("let x = a in ", 31) + "let x = @b": api.ErrDeep, "package let x = " + open(31) + "@b": api.ErrDeep,
		"package if a = b then c else " + open(31) + "@b": api.ErrDeep, "package a + b + " + open(32) + "@c": api.ErrDeep,
		"package a version " + open(32) + "@b": api.ErrDeep, head + "tool " + open(32) + "@b": api.ErrDeep, head + "run a " + open(32) + "@b": api.ErrDeep,
	} {
		place := strings.Index(s, "@")
		whole := strings.Replace(s, "@", "", 1)
		if got, at, e := Parse(whole); at != place || e != want || !sameSource(got, api.Source{}) || !reflect.DeepEqual(got.Fields, []api.Field(nil)) {
			t.Errorf("%q: %v at %d, %d instead of %d", s, got, at, e, want)
		}
	}
}

// P12.1
func TestLimits(t *testing.T) {
	deep := func(n int) string {
		return "package " + strings.Repeat("(", n) + "x" + strings.Repeat(")", n) + " version v"
	}
	if _, at, e := Parse(deep(31)); at != 0 || e != api.OK {
		t.Errorf("31 brackets: %d, %d", at, e)
	}
	if _, at, e := Parse(deep(32)); at != 40 || e != api.ErrDeep {
		t.Errorf("32 brackets: %d, %d", at, e)
	}
	all := deep(31)[8 : 8+63]
	if _, at, e := Parse("package " + all + " version " + all + " tool " + all + " " + all); at != 0 || e != api.OK {
		t.Errorf("31 brackets everywhere: %d, %d", at, e)
	}
	fields := func(n int) string { return "package x version v" + strings.Repeat(" run x y", n) }
	if x, at, e := Parse(fields(20)); at != 0 || e != api.OK || len(x.Fields) != 20 {
		t.Errorf("20 fields: %d, %d", at, e)
	}
	if x, at, e := Parse(fields(21)); at != 180 || e != api.ErrMany || len(x.Fields) != 0 {
		t.Errorf("21 fields: %d, %d", at, e)
	}
	whole := "package x version v"
	if _, at, e := Parse(whole + strings.Repeat("\n", 4096-len(whole))); at != 0 || e != api.OK {
		t.Errorf("4096 bytes: %d, %d", at, e)
	}
	if _, at, e := Parse(whole + strings.Repeat("\n", 4097-len(whole))); at != 0 || e != api.ErrLong {
		t.Errorf("4097 bytes: %d, %d", at, e)
	}
	if _, at, e := Parse(strings.Repeat("(", 4097)); at != 0 || e != api.ErrLong {
		t.Errorf("4097 brackets: %d, %d", at, e)
	}
	if _, at, e := Parse("package " + strings.Repeat("x+", 2000) + "x version v"); at != 0 || e != api.OK {
		t.Errorf("a long sum: %d, %d", at, e)
	}
}

// P12.1
func TestPrint(t *testing.T) {
	a, b := text("a\"\n~"), name("b")
	x := api.Source{Name: cat(a, b, cat(b, b), choice(a, b, b, b)), Version: choice(cat(b, b), let("s", b, b), b, cat(b, b)), Fields: []api.Field{
		{Kind: api.FdTool, Name: a, Range: b}, {Kind: api.FdBuild, Name: let("s", a, b), Range: cat(let("s", a, b), b)}, {Kind: api.FdRun, Name: b, Range: b}}}
	want := `package "a\22\0a~" + b + (b + b) + (if "a\22\0a~" = b then b else b)
version if b + b = let s = b in b then b else b + b
tool "a\22\0a~" b
build let s = "a\22\0a~" in b (let s = "a\22\0a~" in b) + b
run b b
`
	if s, e := Print(x); s != want || e != api.OK {
		t.Errorf("%s, %d", s, e)
	}
	if s, e := Print(named(b)); s != "package b\nversion v\n" || e != api.OK {
		t.Errorf("%s, %d", s, e)
	}
	for _, kind := range []int{0, 4, -1} {
		if s, e := Print(api.Source{Name: b, Version: b, Fields: []api.Field{{Kind: kind, Name: b, Range: b}}}); s != "" || e != api.ErrArg {
			t.Errorf("a field of kind %d: %q, %d", kind, s, e)
		}
	}
	field := api.Field{Kind: api.FdRun, Name: b, Range: b}
	for n, want := range map[int]api.Errno{20: api.OK, 21: api.ErrArg, 1000: api.ErrArg} {
		if s, e := Print(api.Source{Name: b, Version: b, Fields: slices.Repeat([]api.Field{field}, n)}); e != want || e != api.OK && s != "" {
			t.Errorf("%d fields: %q, %d", n, s, e)
		}
	}
	bad := api.Expr{}
	for i, x := range []api.Source{
		{Name: bad, Version: b}, {Name: b, Version: bad}, {Name: b, Version: b, Fields: []api.Field{{Kind: 1, Name: bad, Range: b}}},
		{Name: b, Version: b, Fields: []api.Field{field, {Kind: 1, Name: b, Range: bad}}}, {Name: text(strings.Repeat("x", 9999)), Version: bad}, {},
	} {
		if s, e := Print(x); s != "" || e != api.ErrArg {
			t.Errorf("%d: %q, %d", i, s, e)
		}
	}
}

// P12.1
func TestPrintTooLong(t *testing.T) {
	// The lines around it have 21 bytes, its quotes among them.
	for n, want := range map[int]api.Errno{4075: api.OK, 4076: api.ErrLong, 1 << 20: api.ErrLong} {
		if s, e := Print(named(text(strings.Repeat("x", n)))); e != want || e == api.OK && len(s) != 4096 || e != api.OK && s != "" {
			t.Errorf("%d: %d bytes, %d", n, len(s), e)
		}
	}
	if _, e := Print(named(text(strings.Repeat("\n", 1359)))); e != api.ErrLong {
		t.Errorf("line feeds: %d", e)
	}
	if _, e := Print(named(text(strings.Repeat("\n", 1358)))); e != api.OK {
		t.Errorf("line feeds: %d", e)
	}
	huge := text(strings.Repeat("x", 1<<20))
	if _, e := Print(named(cat(slices.Repeat([]api.Expr{huge}, 4095)...))); e != api.ErrLong {
		t.Errorf("much: %d", e)
	}
}

func random(r *rand.Rand, within int) api.Expr {
	kind := 1 + r.Intn(5)
	if within > 4 {
		kind = 1 + r.Intn(2)
	}
	x := api.Expr{Kind: kind}
	count := 0
	switch kind {
	case api.ExText:
		b := make([]byte, r.Intn(4))
		r.Read(b)
		x.S = string(b)
	case api.ExName:
		x.S = string("abc"[r.Intn(3)])
	case api.ExCat:
		count = 2 + r.Intn(2)
	case api.ExIf:
		count = 4
	case api.ExLet:
		x.S, count = "s", 2
	}
	for range count {
		x.Kids = append(x.Kids, random(r, within+1))
	}
	return x
}

func randomSource(r *rand.Rand) api.Source {
	x := api.Source{Name: random(r, r.Intn(6)), Version: random(r, r.Intn(6))}
	for range r.Intn(4) {
		x.Fields = append(x.Fields, api.Field{Kind: 1 + r.Intn(3), Name: random(r, 2+r.Intn(4)), Range: random(r, 2+r.Intn(4))})
	}
	return x
}

// P12.2
func TestThereAndBack(t *testing.T) {
	r := rand.New(rand.NewSource(1))
	whole := 0
	for range 3000 {
		x := randomSource(r)
		s, e := Print(x)
		if e == api.ErrLong {
			continue
		}
		if e != api.OK {
			t.Fatalf("%v: %d", x, e)
		}
		whole++
		if got, at, e := Parse(s); e != api.OK || at != 0 || !sameSource(got, x) {
			t.Fatalf("%s: %v at %d, %d", s, got, at, e)
		}
		b := []byte(s)
		for range 1 + r.Intn(3) {
			b[r.Intn(len(b))] = `()+="ab x`[r.Intn(9)]
		}
		got, _, e := Parse(string(b))
		if e != api.OK {
			continue
		}
		again, e := Print(got)
		if e != api.OK {
			t.Fatalf("%s: what is read isn't printed, %d", b, e)
		}
		if back, _, e := Parse(again); e != api.OK || !sameSource(back, got) {
			t.Fatalf("%s: %v, %d", again, back, e)
		}
	}
	if whole < 1000 {
		t.Errorf("only %d recipes", whole)
	}
	if s, e := Print(named(nested(34))); e != api.OK {
		t.Errorf("%d", e)
	} else if _, _, e := Parse(s); e != api.ErrDeep {
		t.Errorf("32 brackets and a text: %d", e)
	}
	if s, e := Print(named(nested(33))); e != api.OK {
		t.Errorf("%d", e)
	} else if got, _, e := Parse(s); e != api.OK || !sameSource(got, named(nested(33))) {
		t.Errorf("31 brackets and a text: %d", e)
	}
}

// P12.3
func TestNotesAndBlanks(t *testing.T) {
	tokens := []string{"package", "(", `"a # b"`, "+", "x", ")", "version", "if", "x", "=", `""`, "then", "y", "else", "z", "tool", "let", "s", "=", "x", "in", "s", "y"}
	want, _, e := Parse(strings.Join(tokens, " "))
	if e != api.OK {
		t.Fatal(e)
	}
	r := rand.New(rand.NewSource(2))
	for range 1000 {
		s := ""
		for _, tok := range tokens {
			s += tok
			for first := true; first || r.Intn(3) > 0; first = false {
				s += []string{" ", "\n", "\t", "# \" ( é\n", "#\n", " #package\n"}[r.Intn(6)]
			}
		}
		if got, at, e := Parse(s); e != api.OK || at != 0 || !sameSource(got, want) {
			t.Fatalf("%q: %v at %d, %d", s, got, at, e)
		}
	}
	if got, _, e := Parse(`package("a # b"+x)version if x=""then y else z tool let s=x in s y`); e != api.OK || !sameSource(got, want) {
		t.Errorf("as few as may be: %v, %d", got, e)
	}
}

// P12.4
func TestNewMemory(t *testing.T) {
	kids := append(make([]api.Expr, 0, 5), text("a"), name("b"))
	x := named(cat(kids...))
	x.Name.Kids = kids
	x.Fields = append(make([]api.Field, 0, 3), api.Field{Kind: 1, Name: text("c"), Range: text("d")})
	s, _ := Print(x)
	Good(x.Name)
	if !same(kids[:5][2], api.Expr{}) || kids[0].S != "a" || x.Fields[:2][1].Kind != 0 {
		t.Error("what was handed in is changed")
	}
	a, _, _ := Parse(s)
	b, _, _ := Parse(s)
	a.Name.Kids[0].S, a.Fields[0].Kind = "changed", 3
	if !sameSource(b, x) {
		t.Error("two answers share memory")
	}
}
