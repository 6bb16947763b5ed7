package drv

import (
	"fmt"
	"math/rand"
	"slices"
	"strings"
	"testing"

	"sapling/api"
	"sapling/mix"
)

var zero = strings.Repeat("a", 13)

func key(n uint64) string { return mix.Text(n) }

// inputs answers so many inputs.
func inputs(n int) []api.Input {
	var out []api.Input
	for i := range n {
		out = append(out, api.Input{Name: fmt.Sprintf("n%02d", i), Key: key(uint64(i))})
	}
	return out
}

func sample() api.Drv {
	return api.Drv{Pkg: api.Pkg{Name: "a", Version: api.Version{1, 0, 0}}, Tool: zero, With: inputs(2)}
}

func same(a, b api.Drv) bool {
	return a.Pkg == b.Pkg && a.Tool == b.Tool && slices.Equal(a.With, b.With)
}

// P18.1
func TestGood(t *testing.T) {
	for i, change := range []func(d *api.Drv){
		func(d *api.Drv) {}, func(d *api.Drv) { d.With = nil }, func(d *api.Drv) { d.With = inputs(40) }, func(d *api.Drv) { d.Tool = "p777777777777" },
		func(d *api.Drv) { d.With = []api.Input{{Name: "a", Key: zero}, {Name: "a-", Key: zero}} }, func(d *api.Drv) { d.Pkg.Version = api.Version{} },
	} {
		d := sample()
		change(&d)
		s, e := Encode(d)
		if k, f := Key(d, 64); !Good(d) || e != api.OK || f != api.OK || k != mix.Text(mix.Of(s)) {
			t.Errorf("%d: %t, %d, %d", i, Good(d), e, f)
		}
	}
	for i, change := range []func(d *api.Drv){
		func(d *api.Drv) { d.Pkg.Name = "" }, func(d *api.Drv) { d.Pkg.Name = "A" }, func(d *api.Drv) { d.Pkg.Version[0] = 1000 }, func(d *api.Drv) { d.Pkg.Version[2] = -1 },
		func(d *api.Drv) { d.Tool = "" }, func(d *api.Drv) { d.Tool = "qaaaaaaaaaaaa" }, func(d *api.Drv) { d.Tool += "a" }, func(d *api.Drv) { d.With = inputs(41) },
		func(d *api.Drv) { d.With[0].Name = "z" }, func(d *api.Drv) { d.With[1].Name = d.With[0].Name }, func(d *api.Drv) { d.With[0].Name = "A" },
		func(d *api.Drv) { d.With[0].Name = "" }, func(d *api.Drv) { d.With[1].Name = "x/y" }, func(d *api.Drv) { d.With[1].Key = "x" }, func(d *api.Drv) { *d = api.Drv{} },
	} {
		d := sample()
		change(&d)
		s, e := Encode(d)
		if k, f := Key(d, 64); Good(d) || s != "" || k != "" || e != api.ErrArg || f != api.ErrArg {
			t.Errorf("%d: %t, %d, %d", i, Good(d), e, f)
		}
	}
}

// P18.1
func TestBytes(t *testing.T) {
	d := sample()
	d.With = nil
	if s, e := Encode(d); s != "(3:drv1:a5:1.0.013:aaaaaaaaaaaaa())" || e != api.OK {
		t.Errorf("%q, %d", s, e)
	}
	if s, e := Encode(sample()); s != "(3:drv1:a5:1.0.013:aaaaaaaaaaaaa((3:n0013:aaaaaaaaaaaaa)(3:n0113:aaaaaaaaaaaab)))" || e != api.OK {
		t.Errorf("%q, %d", s, e)
	}
	k := "13:" + zero
	for s, want := range map[string]api.Errno{
		"": api.ErrForm, "()": api.ErrForm, "3:drv": api.ErrForm, "(3:drv1:a5:1.0.0" + k + ")": api.ErrForm, "(3:drv1:a5:1.0.0" + k + "()())": api.ErrForm,
		"(3:drw1:a5:1.0.0" + k + "())": api.ErrForm, "(3:drv1:A5:1.0.0" + k + "())": api.ErrForm, "(3:drv1:a3:1.0" + k + "())": api.ErrForm,
		"(3:drv1:a8:1.0.1000" + k + "())": api.ErrForm, "(3:drv1:a6:01.0.0" + k + "())": api.ErrForm, "(3:drv1:a5:1.0.01:a())": api.ErrForm, "(3:drv1:a5:1.0.0" + k + "0:)": api.ErrForm,
		"((3:drv)1:a5:1.0.0" + k + "())": api.ErrForm, "(3:drv1:a5:1.0.0()())": api.ErrForm, "(3:drv1:a5:1.0.0" + k + "(()))": api.ErrForm,
		"(3:drv1:a5:1.0.0" + k + "((1:x)))": api.ErrForm, "(3:drv1:a5:1.0.0" + k + "((1:x" + k + "0:)))": api.ErrForm, "(3:drv1:a5:1.0.0" + k + "((1:x())))": api.ErrForm,
		"(3:drv1:a5:1.0.0" + k + "(1:x))": api.ErrForm, "(3:drv1:a5:1.0.0" + k + "((1:y" + k + ")(1:x" + k + ")))": api.ErrForm,
		"(3:drv1:a5:1.0.0" + k + "((1:x" + k + ")(1:x" + k + ")))": api.ErrForm, "(3:drv1:a5:1.0.0" + k + "((1:x" + k + ")(1:y" + k + ")))": api.OK,
		"(3:drv1:a5:1.0.0" + k + "())x": api.ErrForm, strings.Repeat("(", 33): api.ErrDeep, strings.Repeat("x", 65537): api.ErrLong,
		"(3:drv1:a5:1.0.0" + k + "((1:x(" + k + "))))": api.ErrForm,
	} {
		if d, e := Decode(s); e != want || e != api.OK && !same(d, api.Drv{}) {
			t.Errorf("%.60q: %v, %d instead of %d", s, d, e, want)
		}
	}
}

// P18.1
func TestKey(t *testing.T) {
	d := sample()
	s, _ := Encode(d)
	for _, width := range []int{-1, 0, 1, 7, 63, 64, 99} {
		if k, e := Key(d, width); k != mix.Text(mix.Narrow(mix.Of(s), width)) || e != api.OK {
			t.Errorf("%d: %s, %d", width, k, e)
		}
	}
	if k, _ := Key(d, 0); k != zero {
		t.Errorf("no bits: %s", k)
	}
}

func random(r *rand.Rand) api.Drv {
	d := api.Drv{Pkg: api.Pkg{Name: string("ab"[r.Intn(2)]), Version: api.Version{r.Intn(2), 0, r.Intn(2) * 999}}, Tool: key(uint64(r.Intn(2)))}
	for _, x := range inputs(5) {
		if r.Intn(2) == 0 {
			d.With = append(d.With, api.Input{Name: x.Name, Key: key(r.Uint64() >> (1 + r.Intn(63)))})
		}
	}
	return d
}

// P18.2
func TestThereAndBack(t *testing.T) {
	r := rand.New(rand.NewSource(1))
	seen := map[string]api.Drv{}
	for range 3000 {
		d := random(r)
		s, e := Encode(d)
		if e != api.OK {
			t.Fatalf("%v: %d", d, e)
		}
		if got, e := Decode(s); e != api.OK || !same(got, d) {
			t.Fatalf("%s: %v, %d", s, got, e)
		}
		if other, ok := seen[s]; ok && !same(other, d) {
			t.Fatalf("%s: %v and %v", s, d, other)
		}
		seen[s] = d
		b := []byte(s)
		b[r.Intn(len(b))] = "()0123:ab"[r.Intn(9)]
		if got, e := Decode(string(b)); e == api.OK {
			if back, _ := Encode(got); back != string(b) {
				t.Fatalf("%q is written as %q", b, back)
			}
		}
	}
}

// P18.3
func TestNewMemory(t *testing.T) {
	d := sample()
	d.With = append(make([]api.Input, 0, 5), d.With...)
	before := slices.Clone(d.With[:5])
	s, _ := Encode(d)
	Key(d, 64)
	Good(d)
	if !slices.Equal(d.With[:5], before) {
		t.Errorf("what was handed in is changed: %v", d.With[:5])
	}
	one, _ := Decode(s)
	two, _ := Decode(s)
	one.With[0].Name = "changed"
	if !same(two, d) {
		t.Errorf("two answers share memory: %v", two)
	}
}
