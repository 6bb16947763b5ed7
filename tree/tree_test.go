package tree

import (
	"fmt"
	"math/rand"
	"slices"
	"strings"
	"testing"

	"sapling/api"
)

// files answers files from pairs of a path and its bytes.
func files(pairs ...string) []api.File {
	var out []api.File
	for i := 0; i < len(pairs); i += 2 {
		out = append(out, api.File{Path: pairs[i], Data: pairs[i+1]})
	}
	return out
}

// many answers so many files.
func many(n int) []api.File {
	var out []api.File
	for i := range n {
		out = append(out, api.File{Path: fmt.Sprintf("f%02d", i)})
	}
	return out
}

func made(t *testing.T, list []api.File) api.Tree {
	t.Helper()
	out, e := Make(list)
	if e != api.OK {
		t.Fatalf("Make of %v: %d", list, e)
	}
	return out
}

func same(a, b api.Tree) bool { return slices.Equal(a.Files, b.Files) }

var long = strings.Repeat("x", 2049)

// badTrees are trees that can't be.
var badTrees = []api.Tree{
	{Files: files("b", "", "a", "")}, {Files: files("a", "", "a", "")}, {Files: files("a", "", "a/b", "")},
	{Files: files("A", "")}, {Files: files("", "")}, {Files: files("a", long)}, {Files: many(33)},
	{Files: files("a", "", "a-b", "", "a/b", "")}, {Files: files("a/", "")},
}

// P5.1
func TestMake(t *testing.T) {
	got := made(t, files("b", "x", "a/c", "", "a-b", "y", "a/b/c", "z"))
	if !slices.Equal(got.Files, files("a-b", "y", "a/b/c", "z", "a/c", "", "b", "x")) {
		t.Errorf("%v", got)
	}
	if got := made(t, nil); len(got.Files) != 0 {
		t.Errorf("%v", got)
	}
	made(t, many(32))
	made(t, files("a", long[1:]))
	made(t, files("a", "", "ab", "", "a-", "", "a.b/c", ""))
	for _, c := range []struct {
		list []api.File
		want api.Errno
	}{
		{many(33), api.ErrMany},
		{append(many(32), api.File{Path: "A", Data: long}), api.ErrMany},
		{files("a", "", "A", ""), api.ErrPath},
		{files("", ""), api.ErrPath},
		{files("a", long), api.ErrLong},
		{files("A", long), api.ErrPath},
		{files("a", long, "A", ""), api.ErrLong},
		{files("A", "", "a", long), api.ErrPath},
		{files("a", "", "a", ""), api.ErrTwice},
		{files("a", "", "b", "", "a", "x"), api.ErrTwice},
		{files("a", "", "a", "", "B", ""), api.ErrPath},
		{files("a", "", "a/b", ""), api.ErrClash},
		{files("a/b/c", "", "a", ""), api.ErrClash},
		{files("a", "", "a/b", "", "c", "", "c", ""), api.ErrTwice},
		{files("a", "", "a-b", "", "a.c", "", "a/b", ""), api.ErrClash},
		{files("x/a/b", "", "x/a", ""), api.ErrClash},
	} {
		if got, e := Make(c.list); e != c.want || len(got.Files) != 0 {
			t.Errorf("%.60v: %v, %d instead of %d", c.list, got, e, c.want)
		}
	}
}

// P5.1
func TestGood(t *testing.T) {
	for _, list := range [][]api.File{nil, files("a", ""), files("a", "", "b", "x"), many(32), files("a-b", "", "a/b", "")} {
		if !Good(api.Tree{Files: list}) {
			t.Errorf("%v can't be", list)
		}
	}
	for _, bad := range badTrees {
		if Good(bad) {
			t.Errorf("%.60v can be", bad)
		}
	}
}

// P5.1
func TestTreesThatCantBe(t *testing.T) {
	good := api.Tree{}
	for _, bad := range badTrees {
		_, put := Put(bad, api.File{Path: "A"})
		_, drop := Drop(bad, "nowhere")
		_, cut := Cut(bad, "A")
		_, mount := Mount(bad, "A", good)
		_, mounted := Mount(good, "A", bad)
		s, encode := Encode(bad)
		for _, e := range []api.Errno{put, drop, cut, mount, mounted, encode} {
			if e != api.ErrArg {
				t.Errorf("%.60v: %d", bad, e)
			}
		}
		if s != "" {
			t.Errorf("%.60v has bytes", bad)
		}
		Get(bad, "a")
		for range Names(bad, "") {
		}
	}
}

// P5.1
func TestGetAndPut(t *testing.T) {
	full := made(t, many(32))
	for _, c := range []struct {
		t    api.Tree
		f    api.File
		want api.Errno
	}{
		{full, api.File{Path: "f07", Data: "x"}, api.OK},
		{full, api.File{Path: "new"}, api.ErrMany},
		{full, api.File{Path: "NEW", Data: long}, api.ErrMany},
		{api.Tree{}, api.File{Path: "A", Data: long}, api.ErrPath},
		{api.Tree{}, api.File{Path: ""}, api.ErrPath},
		{api.Tree{}, api.File{Path: "a", Data: long}, api.ErrLong},
		{full, api.File{Path: "f07", Data: long}, api.ErrLong},
		{made(t, files("a/b", "")), api.File{Path: "a"}, api.ErrClash},
		{made(t, files("a/b", "")), api.File{Path: "a/b/c"}, api.ErrClash},
		{made(t, files("a/b", "")), api.File{Path: "a/b", Data: "x"}, api.OK},
	} {
		got, e := Put(c.t, c.f)
		if e != c.want || e != api.OK && len(got.Files) != 0 {
			t.Errorf("%.20v: %d instead of %d", c.f, e, c.want)
		}
		if data, ok := Get(got, c.f.Path); ok != (e == api.OK) || e == api.OK && data != c.f.Data {
			t.Errorf("%.20v: %.20q, %t", c.f, data, ok)
		}
	}
	if data, ok := Get(full, "f"); data != "" || ok {
		t.Error("Get of what isn't there")
	}
	if data, ok := Get(api.Tree{}, ""); data != "" || ok {
		t.Error("Get of no path")
	}
}

// P5.1
func TestDrop(t *testing.T) {
	all := made(t, files("a/b", "1", "a/c/d", "2", "ab", "3", "a-", "4"))
	for _, c := range []struct {
		p    string
		want []api.File
	}{
		{"a", files("a-", "4", "ab", "3")}, {"a/c", files("a-", "4", "a/b", "1", "ab", "3")},
		{"ab", files("a-", "4", "a/b", "1", "a/c/d", "2")}, {"a/c/d", files("a-", "4", "a/b", "1", "ab", "3")},
	} {
		if got, e := Drop(all, c.p); e != api.OK || !slices.Equal(got.Files, c.want) {
			t.Errorf("%q: %v, %d", c.p, got, e)
		}
	}
	for _, p := range []string{"", "x", "a/", "/", "a/x", "A", "a/b/x"} {
		if got, e := Drop(all, p); e != api.ErrNone || len(got.Files) != 0 {
			t.Errorf("%q: %v, %d", p, got, e)
		}
	}
	if got, e := Drop(made(t, files("a", "")), "a"); e != api.OK || len(got.Files) != 0 {
		t.Errorf("the last one: %v, %d", got, e)
	}
}

// P5.1
func TestCut(t *testing.T) {
	all := made(t, files("a/b", "1", "a/c/d", "2", "ab/x", "3"))
	for dir, want := range map[string][]api.File{
		"": all.Files, "a": files("b", "1", "c/d", "2"), "a/c": files("d", "2"), "a/b": nil, "x": nil, "ab": files("x", "3"),
	} {
		if got, e := Cut(all, dir); e != api.OK || !slices.Equal(got.Files, want) {
			t.Errorf("%q: %v, %d", dir, got, e)
		}
	}
	for _, dir := range []string{"/", "A", "a/", ".a"} {
		if got, e := Cut(all, dir); e != api.ErrPath || len(got.Files) != 0 {
			t.Errorf("%q: %v, %d", dir, got, e)
		}
	}
}

// P5.1
func TestMount(t *testing.T) {
	a, b := made(t, files("x", "1", "y/z", "2")), made(t, files("p", "3", "q/r", "4"))
	if got, e := Mount(a, "y", b); e != api.OK || !slices.Equal(got.Files, files("x", "1", "y/p", "3", "y/q/r", "4", "y/z", "2")) {
		t.Errorf("%v, %d", got, e)
	}
	if got, e := Mount(a, "", b); e != api.OK || !slices.Equal(got.Files, files("p", "3", "q/r", "4", "x", "1", "y/z", "2")) {
		t.Errorf("%v, %d", got, e)
	}
	deep := made(t, files("1/2/3/4/5/6/7/8", ""))
	for _, c := range []struct {
		t, sub api.Tree
		dir    string
		want   api.Errno
	}{
		{a, b, "A", api.ErrPath}, {a, api.Tree{}, "a/", api.ErrPath}, {a, deep, "a", api.ErrPath}, {a, deep, "", api.OK},
		{a, b, "x", api.ErrClash}, {a, a, "", api.ErrTwice}, {made(t, many(31)), b, "a", api.ErrMany},
		{a, made(t, files("z/q", "")), "y", api.ErrClash}, {made(t, many(32)), deep, "a", api.ErrPath},
		{made(t, many(30)), b, "a", api.OK}, {a, api.Tree{}, "x", api.OK},
	} {
		if got, e := Mount(c.t, c.dir, c.sub); e != c.want || e != api.OK && len(got.Files) != 0 {
			t.Errorf("%q: %d instead of %d", c.dir, e, c.want)
		}
	}
}

// P5.1, P5.4
func TestNames(t *testing.T) {
	list := files("a-b/x", "", "a/c", "", "a/d/e", "", "a/d/f", "", "a0", "", "b", "")
	all := made(t, list)
	for dir, want := range map[string][]string{
		"": {"a-b/", "a/", "a0", "b"}, "a": {"c", "d/"}, "a/d": {"e", "f"}, "b": nil, "x": nil, "A": nil, "a/": nil, "/": nil,
	} {
		over := Names(all, dir)
		for range 2 {
			if got := slices.Collect(over); !slices.Equal(got, want) {
				t.Errorf("%q: %q", dir, got)
			}
		}
	}
	over, within := Names(all, ""), 0
	for range over {
		for range over {
			within++
		}
	}
	for name := range over {
		if within++; name == "a/" {
			break
		}
	}
	if within != 18 {
		t.Errorf("within itself, and stopped: %d", within)
	}
	for i := range all.Files {
		all.Files[i].Path = "zz"
	}
	if got := slices.Collect(over); len(got) != 4 || got[0] != "a-b/" {
		t.Errorf("Names kept what was handed in: %q", got)
	}
}

// P5.1
func TestBytes(t *testing.T) {
	all := made(t, files("b", "x", "a/c", ""))
	if s, e := Encode(all); s != "((3:a/c0:)(1:b1:x))" || e != api.OK {
		t.Errorf("%q, %d", s, e)
	}
	if s, e := Encode(api.Tree{}); s != "()" || e != api.OK {
		t.Errorf("%q, %d", s, e)
	}
	big := many(32)
	for i := range big {
		big[i].Data = long[1:]
	}
	if s, e := Encode(made(t, big)); s != "" || e != api.ErrLong {
		t.Errorf("%d bytes, %d", len(s), e)
	}
	for s, want := range map[string]api.Errno{
		"": api.ErrForm, "0:": api.ErrForm, "4:tree": api.ErrForm, "(1:a)": api.ErrForm, "((1:a))": api.ErrForm,
		"((1:a0:0:))": api.ErrForm, "(((1:a)0:))": api.ErrForm, "((1:a()))": api.ErrForm, "(())": api.ErrForm,
		"((1:b0:)(1:a0:))": api.ErrForm, "((1:a0:)(1:a0:))": api.ErrForm, "((1:A0:))": api.ErrForm,
		"((1:a0:)(3:a/b0:))": api.ErrForm, "((1:a2049:" + long + "))": api.ErrForm, "((1:a0:))x": api.ErrForm,
		strings.Repeat("(", 33): api.ErrDeep, strings.Repeat("(", 65537): api.ErrLong, "()": api.OK, "((1:a0:))": api.OK,
	} {
		if got, e := Decode(s); e != want || e != api.OK && len(got.Files) != 0 {
			t.Errorf("%.40q: %v, %d instead of %d", s, got, e, want)
		}
	}
	if _, e := Decode(strings.Repeat("x", 3)); e != api.ErrForm {
		t.Errorf("%d", e)
	}
}

func random(r *rand.Rand) []api.File {
	var out []api.File
	for range r.Intn(8) {
		p := []string{}
		for range 1 + r.Intn(3) {
			p = append(p, string("abc-"[r.Intn(4)])+strings.Repeat("-", r.Intn(2)))
		}
		out = append(out, api.File{Path: strings.Join(p, "/"), Data: strings.Repeat(":", r.Intn(4))})
	}
	return out
}

// P5.2
func TestThereAndBack(t *testing.T) {
	r := rand.New(rand.NewSource(1))
	for range 3000 {
		list := random(r)
		a, e := Make(list)
		r.Shuffle(len(list), func(i, j int) { list[i], list[j] = list[j], list[i] })
		b, f := Make(list)
		if e != f || !same(a, b) {
			t.Fatalf("%v: %d and %d", list, e, f)
		}
		if e != api.OK {
			continue
		}
		s, _ := Encode(a)
		if got, e := Decode(s); e != api.OK || !same(got, a) {
			t.Fatalf("%q: %v, %d", s, got, e)
		}
		x := []byte(s)
		x[r.Intn(len(x))] = "()12:abc-"[r.Intn(9)]
		if got, e := Decode(string(x)); e == api.OK {
			if back, _ := Encode(got); back != string(x) {
				t.Fatalf("%q is written as %q", x, back)
			}
		}
	}
}

// P5.3
func TestWhatWasPutIsGot(t *testing.T) {
	r := rand.New(rand.NewSource(2))
	for range 2000 {
		a, e := Make(random(r))
		list := random(r)
		if e != api.OK || len(list) == 0 {
			continue
		}
		f := list[0]
		b, e := Put(a, f)
		if e != api.OK {
			continue
		}
		for _, g := range append(a.Files, f) {
			want, had := Get(a, g.Path)
			if g.Path == f.Path {
				want, had = f.Data, true
			}
			if got, ok := Get(b, g.Path); got != want || ok != had {
				t.Fatalf("%v in %v: %q in %v", f, a, got, b)
			}
		}
		for _, g := range b.Files {
			if _, ok := Get(a, g.Path); !ok && g.Path != f.Path {
				t.Fatalf("%v in %v: %v", f, a, b)
			}
		}
		if !Good(b) {
			t.Fatalf("%v can't be", b)
		}
	}
}

// P5.3
func TestCutOfWhatWasMounted(t *testing.T) {
	r := rand.New(rand.NewSource(3))
	for range 2000 {
		a, e := Make(random(r))
		sub, f := Make(random(r))
		if e != api.OK || f != api.OK {
			continue
		}
		if there, _ := Cut(a, "a/c"); len(there.Files) > 0 {
			continue
		}
		if b, e := Mount(a, "a/c", sub); e == api.OK {
			if got, e := Cut(b, "a/c"); e != api.OK || !same(got, sub) {
				t.Fatalf("%v: %v, %d", sub, got, e)
			}
		}
	}
}

// P5.4
func TestNewMemory(t *testing.T) {
	list := make([]api.File, 3, 8)
	copy(list, files("c", "3", "a", "1", "b/x", "2"))
	a := made(t, list)
	if !slices.Equal(list[:8], append(files("c", "3", "a", "1", "b/x", "2"), make([]api.File, 5)...)) {
		t.Errorf("Make changed what was handed in: %v", list[:8])
	}
	room := append(make([]api.File, 0, 9), a.Files...)
	b := api.Tree{Files: room}
	var got []api.Tree
	keep := func(t api.Tree, e api.Errno) { got = append(got, t) }
	keep(Make(room))
	keep(Put(b, api.File{Path: "d"}))
	keep(Put(b, api.File{Path: "a"}))
	keep(Drop(b, "c"))
	keep(Drop(b, "a"))
	keep(Cut(b, ""))
	keep(Mount(b, "m", api.Tree{}))
	keep(Mount(api.Tree{}, "", b))
	keep(Mount(b, "n", api.Tree{Files: files("x", "")}))
	if !same(b, a) || room[:9][8] != (api.File{}) || room[:9][3] != (api.File{}) {
		t.Errorf("what was handed in is changed: %v", room[:9])
	}
	for i, g := range got {
		g.Files[0] = api.File{Path: "changed", Data: "x"}
		if !same(b, a) {
			t.Errorf("answer %d shares memory with what was handed in", i)
		}
	}
}
