package span

import (
	"math"
	"math/rand"
	"slices"
	"strings"
	"testing"

	"sapling/api"
	"sapling/version"
)

// gaps answers gaps from pairs of numbers.
func gaps(pairs ...int) []api.Gap {
	var out []api.Gap
	for i := 0; i < len(pairs); i += 2 {
		out = append(out, api.Gap{Lo: pairs[i], Hi: pairs[i+1]})
	}
	return out
}

// comb answers so many gaps of one version each, from a number on.
func comb(from, n int) []api.Gap {
	var out []api.Gap
	for i := range n {
		out = append(out, api.Gap{Lo: from + 2*i, Hi: from + 2*i + 1})
	}
	return out
}

var goodRanges = [][]api.Gap{
	nil, {}, gaps(0, version.All), gaps(0, 1), gaps(version.All-1, version.All), gaps(0, 1, 2, 3), gaps(5, 9, 10, 11),
	comb(0, 16), comb(1, 16),
}

var badRanges = [][]api.Gap{
	gaps(-1, 5), gaps(0, version.All+1), gaps(5, 5), gaps(5, 4), gaps(0, 5, 5, 6), gaps(0, 5, 4, 6), gaps(6, 7, 0, 5),
	gaps(0, 5, 0, 5), comb(0, 17), gaps(math.MinInt, math.MaxInt), gaps(version.All, version.All), gaps(0, 1, 3, 2), gaps(0, 0),
}

func at(n int) api.Version {
	v, _ := version.Of(n)
	return v
}

// P7.1
func TestGood(t *testing.T) {
	for _, r := range goodRanges {
		if !Good(r) {
			t.Errorf("%v is no range", r)
		}
	}
	for _, r := range badRanges {
		if Good(r) || Text(r) != "" {
			t.Errorf("%v is a range, %q", r, Text(r))
		}
		for _, good := range [][]api.Gap{nil, gaps(1, 2)} {
			a, e := Or(r, good)
			b, f := Or(good, r)
			c, g := And(r, good)
			d, h := And(good, r)
			n, i := Not(r)
			if len(a)+len(b)+len(c)+len(d)+len(n) != 0 || e != api.ErrArg || f != e || g != e || h != e || i != e {
				t.Errorf("%v: %d %d %d %d %d", r, e, f, g, h, i)
			}
		}
	}
}

// P7.1
func TestHas(t *testing.T) {
	r := gaps(2, 4, 6, 7)
	for n := range 10 {
		if got := Has(r, at(n)); got != (n == 2 || n == 3 || n == 6) {
			t.Errorf("%d: %t", n, got)
		}
	}
	if Has(gaps(-5, 5), api.Version{0, 0, -1}) || Has(gaps(0, version.All), api.Version{0, 0, 1000}) || Has(nil, at(0)) {
		t.Error("what is no version, or in no gap")
	}
	if !Has(gaps(9, 3, -5, 1), at(0)) || !Has(comb(0, 40), at(78)) || Has(gaps(9, 3), at(5)) {
		t.Error("gaps that are no range")
	}
}

// P7.1
func TestOrAndNot(t *testing.T) {
	for _, c := range []struct{ a, b, or, and []api.Gap }{
		{nil, nil, nil, nil},
		{gaps(1, 5), gaps(5, 9), gaps(1, 9), nil},
		{gaps(1, 5), gaps(3, 9), gaps(1, 9), gaps(3, 5)},
		{gaps(1, 2, 4, 5, 7, 8), gaps(2, 4, 5, 7), gaps(1, 8), nil},
		{gaps(0, version.All), gaps(3, 4), gaps(0, version.All), gaps(3, 4)},
		{gaps(1, 3, 6, 9), gaps(2, 8), gaps(1, 9), gaps(2, 3, 6, 8)},
	} {
		if got, e := Or(c.a, c.b); e != api.OK || !slices.Equal(got, c.or) {
			t.Errorf("%v or %v: %v, %d", c.a, c.b, got, e)
		}
		if got, e := And(c.a, c.b); e != api.OK || !slices.Equal(got, c.and) {
			t.Errorf("%v and %v: %v, %d", c.a, c.b, got, e)
		}
	}
	for _, c := range [][2][]api.Gap{
		{nil, gaps(0, version.All)}, {gaps(0, 1), gaps(1, version.All)}, {gaps(5, version.All), gaps(0, 5)}, {gaps(1, 2, 4, 6), gaps(0, 1, 2, 4, 6, version.All)},
	} {
		for i := range 2 {
			if got, e := Not(c[i]); e != api.OK || !slices.Equal(got, c[1-i]) {
				t.Errorf("not %v: %v, %d", c[i], got, e)
			}
		}
	}
}

// P7.1
func TestTooMany(t *testing.T) {
	if got, e := Not(comb(1, 16)); e != api.ErrMany || len(got) != 0 {
		t.Errorf("Not: %v, %d", got, e)
	}
	if got, e := Not(comb(0, 16)); e != api.OK || len(got) != 16 {
		t.Errorf("Not: %v, %d", got, e)
	}
	if got, e := Or(comb(0, 16), gaps(100, 101)); e != api.ErrMany || len(got) != 0 {
		t.Errorf("Or: %v, %d", got, e)
	}
	if got, e := Or(comb(0, 16), comb(1, 16)); e != api.OK || !slices.Equal(got, gaps(0, 32)) {
		t.Errorf("Or: %v, %d", got, e)
	}
	a, _ := Not(gaps(0, 1, 10, 11, 20, 21, 30, 31, 40, 41, 50, 51, 60, 61, 70, 71, 80, 81))
	b, _ := Not(gaps(5, 6, 15, 16, 25, 26, 35, 36, 45, 46, 55, 56, 65, 66, 75, 76, 85, 86))
	if got, e := And(a, b); e != api.ErrMany || len(got) != 0 {
		t.Errorf("And: %v, %d", got, e)
	}
}

// P7.1
func TestParse(t *testing.T) {
	for s, want := range map[string][]api.Gap{
		"none": nil, "*": gaps(0, version.All), "=1.2.3": gaps(1002003, 1002004), ">=1.0.0": gaps(1000000, version.All),
		">1.0.0": gaps(1000001, version.All), "<=1.0.0": gaps(0, 1000001), "<1.0.0": gaps(0, 1000000),
		"^1.2.3": gaps(1002003, 2000000), "~1.2.3": gaps(1002003, 1003000), "^999.1.0": gaps(999001000, version.All),
		"~999.999.0": gaps(999999000, version.All), "~1.999.5": gaps(1999005, 2000000), "<0.0.0": nil, ">999.999.999": nil,
		"<=999.999.999": gaps(0, version.All), "^0.0.0": gaps(0, 1000000), "~0.0.0": gaps(0, 1000),
		"^1.2.0 | =3.0.0": gaps(1002000, 2000000, 3000000, 3000001), ">=2.0.0 <1.0.0": nil, "* *": gaps(0, version.All),
		">=1.0.0 <2.0.0 ~1.5.0": gaps(1005000, 1006000), "=3.0.0 | =1.0.0 | =2.0.0": gaps(1000000, 1000001, 2000000, 2000001, 3000000, 3000001),
		"<1.0.0 | >=1.0.0": gaps(0, version.All), "=0.0.1 | =0.0.0": gaps(0, 2), "<0.0.0 | =1.0.0": gaps(1000000, 1000001),
	} {
		if got, e := Parse(s); e != api.OK || !slices.Equal(got, want) {
			t.Errorf("%q: %v, %d", s, got, e)
		}
	}
	for _, s := range []string{
		"", " ", "|", " | ", "* |", "* | ", " | *", "*|*", "*  *", " *", "* ", "* | | *", "* |  | *", "none | *", "* none", "None", "=1.2", "1.2.3",
		"==1.2.3", "= 1.2.3", "=>1.2.3", "=<1.2.3", "!1.2.3", "^", ">=", "=1.2.3=", "=01.2.3", "=1.2.1000", "**", "*1.2.3", "<>1.2.3",
		"~>1.2.3", "*\n", "*\t*", "=-1.2.3", "none ", "^*", "=1.2.3,=1.2.4", "=1.2.3 |=1.2.4", "=1.2.3| =1.2.4", "é1.2.3",
	} {
		if got, e := Parse(s); e != api.ErrRange || len(got) != 0 {
			t.Errorf("%q: %v, %d", s, got, e)
		}
	}
}

// texts answers so many terms of one version each, every other one.
func texts(n int) string {
	var out []string
	for i := range n {
		out = append(out, "="+version.Text(at(2*i)))
	}
	return strings.Join(out, bar)
}

// P7.1
func TestParseLimits(t *testing.T) {
	if got, e := Parse(texts(16)); e != api.OK || !slices.Equal(got, comb(0, 16)) {
		t.Errorf("%v, %d", got, e)
	}
	if got, e := Parse(texts(17)); e != api.ErrMany || len(got) != 0 {
		t.Errorf("%v, %d", got, e)
	}
	if got, e := Parse(texts(17) + " | *"); e != api.OK || !slices.Equal(got, gaps(0, version.All)) {
		t.Errorf("%v, %d", got, e)
	}
	if got, e := Parse(texts(17) + " | x"); e != api.ErrRange || len(got) != 0 {
		t.Errorf("%v, %d", got, e)
	}
	long := strings.Repeat("* ", 127) + "*"
	if got, e := Parse(long + " "); e != api.ErrRange || len(got) != 0 {
		t.Errorf("256 bytes: %v, %d", got, e)
	}
	if _, e := Parse(long); e != api.OK {
		t.Errorf("255 bytes: %d", e)
	}
	if _, e := Parse(strings.Repeat("* ", 125) + "=1.1.1"); e != api.OK {
		t.Errorf("256 bytes: %d", e)
	}
	if got, e := Parse(long + " *"); e != api.ErrLong || len(got) != 0 {
		t.Errorf("257 bytes: %v, %d", got, e)
	}
}

// P7.1
func TestText(t *testing.T) {
	for _, c := range []struct {
		r    []api.Gap
		want string
	}{
		{nil, "none"}, {gaps(0, version.All), "*"}, {gaps(0, 1), "=0.0.0"}, {gaps(version.All-1, version.All), "=999.999.999"},
		{gaps(0, 2), "<0.0.2"}, {gaps(5, version.All), ">=0.0.5"}, {gaps(1000000, 2000000), ">=1.0.0 <2.0.0"},
		{gaps(1002000, 2000000, 3000000, 3000001), ">=1.2.0 <2.0.0 | =3.0.0"}, {gaps(0, 7, 9, version.All), "<0.0.7 | >=0.0.9"},
	} {
		if got := Text(c.r); got != c.want {
			t.Errorf("%v: %q", c.r, got)
		}
	}
}

// random answers some range; its numbers are near one another, or near the ends.
func random(r *rand.Rand) []api.Gap {
	n := r.Intn(3) * (version.All/2 - 20)
	var out []api.Gap
	for range r.Intn(8) {
		n += r.Intn(4)
		lo := n
		n += 1 + r.Intn(3)
		out = append(out, api.Gap{Lo: lo, Hi: min(n, version.All)})
	}
	out = slices.DeleteFunc(out, func(g api.Gap) bool { return g.Hi <= g.Lo })
	return tidy(out)
}

// P7.2
func TestHasOfOrAndNot(t *testing.T) {
	r := rand.New(rand.NewSource(1))
	for range 2000 {
		a, b := random(r), random(r)
		or, e := Or(a, b)
		and, f := And(a, b)
		not, g := Not(a)
		if e != api.OK || f != api.OK || g != api.OK || !Good(or) || !Good(and) || !Good(not) {
			t.Fatalf("%v, %v: %v %v %v", a, b, or, and, not)
		}
		for range 40 {
			v := at(min(max(r.Intn(3)*(version.All/2-20)+r.Intn(60)-10, 0), version.All-1))
			x, y := Has(a, v), Has(b, v)
			if Has(or, v) != (x || y) || Has(and, v) != (x && y) || Has(not, v) == x {
				t.Fatalf("%v in %v, %v: %v %v %v", v, a, b, or, and, not)
			}
		}
	}
}

// P7.3
func TestParseOfText(t *testing.T) {
	r := rand.New(rand.NewSource(2))
	for range 2000 {
		a := random(r)
		if s := Text(a); len(s) <= 256 {
			if got, e := Parse(s); e != api.OK || !slices.Equal(got, a) {
				t.Fatalf("%v, %q: %v, %d", a, s, got, e)
			}
		}
	}
	for _, a := range goodRanges {
		if got, e := Parse(Text(a)); e != api.OK || !slices.Equal(got, a) {
			t.Fatalf("%v: %v, %d", a, got, e)
		}
	}
}

// P7.4
func TestNewMemory(t *testing.T) {
	room := make([]api.Gap, 2, 9)
	room[0], room[1] = api.Gap{Lo: 5, Hi: 7}, api.Gap{Lo: 9, Hi: 11}
	whole := slices.Clone(room[:9])
	var got [][]api.Gap
	keep := func(r []api.Gap, e api.Errno) { got = append(got, r) }
	keep(Or(room, nil))
	keep(Or(nil, room))
	keep(Or(room, gaps(1, 2)))
	keep(And(room, gaps(0, version.All)))
	keep(Not(room))
	keep(Parse("=1.0.0"))
	for _, r := range got {
		r[0] = api.Gap{Lo: 1, Hi: 2}
		_ = append(r, api.Gap{Lo: 3, Hi: 4})
	}
	if !slices.Equal(room[:9], whole) {
		t.Errorf("what was handed in is changed: %v", room[:9])
	}
}
