package version

import (
	"math"
	"math/rand"
	"strings"
	"testing"

	"sapling/api"
)

var goodVersions = map[string]api.Version{
	"0.0.0": {}, "1.20.3": {1, 20, 3}, "999.999.999": {999, 999, 999}, "0.0.1": {0, 0, 1}, "10.0.100": {10, 0, 100},
}

var badVersions = []api.Version{
	{-1, 0, 0}, {0, -1, 0}, {0, 0, -1}, {1000, 0, 0}, {0, 1000, 0}, {0, 0, 1000},
	{math.MinInt, math.MaxInt, 0}, {1, 2, math.MaxInt}, {0, 1, -1000},
}

// P6.1
func TestTexts(t *testing.T) {
	for s, v := range goodVersions {
		if !Good(v) || Text(v) != s {
			t.Errorf("%v: %t, %q", v, Good(v), Text(v))
		}
		if got, e := Parse(s); got != v || e != api.OK {
			t.Errorf("%q: %v, %d", s, got, e)
		}
	}
	for _, v := range badVersions {
		if Good(v) || Text(v) != "" || Number(v) != -1 {
			t.Errorf("%v: %t, %q, %d", v, Good(v), Text(v), Number(v))
		}
	}
	for _, s := range []string{
		"", ".", "..", "1", "1.2", "1.2.3.4", "01.2.3", "1.2.1000", "1.02.3", "00.0.0", "1..2", "1.2.", ".1.2", "-1.2.3", "1.2.-0",
		"+1.2.3", "1.2.3 ", " 1.2.3", "1.2.x", "1,2,3", "1.2.3\n", "٣.1.2", "1.2.99999999999999999999", "1000.0.0", "0.1000.0",
		"1_0.1.1", strings.Repeat("1.", 1<<20),
	} {
		if v, e := Parse(s); v != (api.Version{}) || e != api.ErrVersion {
			t.Errorf("%.40q: %v, %d", s, v, e)
		}
	}
}

// P6.1
func TestCompare(t *testing.T) {
	rising := []api.Version{
		{math.MinInt, 5, 5}, {-1, 1000, 1000}, {0, 0, -1}, {0, 0, 0}, {0, 0, 999}, {0, 0, 1000}, {0, 1, 0}, {0, 999, 999},
		{1, -1, 5000}, {1, 0, 0}, {2, 0, 0}, {10, 0, 0}, {math.MaxInt, math.MinInt, 0}, {math.MaxInt, 0, 0},
	}
	for i, a := range rising {
		for j, b := range rising {
			want := 0
			if i < j {
				want = -1
			} else if i > j {
				want = 1
			}
			if got := Compare(a, b); got != want {
				t.Errorf("%v, %v: %d", a, b, got)
			}
		}
	}
}

// P6.1
func TestNumbers(t *testing.T) {
	for n, v := range map[int]api.Version{0: {}, 1020003: {1, 20, 3}, All - 1: {999, 999, 999}, 999: {0, 0, 999}, 1000: {0, 1, 0}} {
		if got := Number(v); got != n {
			t.Errorf("%v: %d", v, got)
		}
		if got, ok := Of(n); got != v || !ok {
			t.Errorf("%d: %v, %t", n, got, ok)
		}
	}
	for _, n := range []int{-1, All, math.MinInt, math.MaxInt} {
		if v, ok := Of(n); v != (api.Version{}) || ok {
			t.Errorf("%d: %v, %t", n, v, ok)
		}
	}
	if All != 1000000000 {
		t.Errorf("%d versions", All)
	}
}

// P6.2, P6.3
func TestThereAndBackAndInOrder(t *testing.T) {
	r := rand.New(rand.NewSource(1))
	last := 0
	for range 5000 {
		n := r.Intn(All)
		v, ok := Of(n)
		if !ok || Number(v) != n {
			t.Fatalf("%d: %v, %d", n, v, Number(v))
		}
		if got, e := Parse(Text(v)); got != v || e != api.OK {
			t.Fatalf("%v: %v, %d", v, got, e)
		}
		near := min(max(n+r.Intn(5)-2, 0), All-1)
		for _, m := range []int{last, near} {
			w, _ := Of(m)
			if c := Compare(v, w); c < 0 != (n < m) || c > 0 != (n > m) {
				t.Fatalf("%v, %v: %d", v, w, c)
			}
		}
		last = n
	}
}
