package path

import (
	"math/rand"
	"slices"
	"strings"
	"testing"

	"sapling/api"
)

var (
	long32  = strings.Repeat("n", 32)
	long128 = strings.Repeat(strings.Repeat("n", 31)+"/", 3) + long32
)

var goodPaths = []string{"a", "a/b", "a/b/c", "a-_.9/0", "-", "_", "a..b", "a.", "1/2/3/4/5/6/7/8", long32, long128, "x/" + long32}

var badPaths = []string{
	"", "/", "/a", "a/", "a//b", ".x", "a/.x", ".", "..", "A", "a b", "a\n", "é", "a/é", "\xff", "a\x00", "a\\b", "~",
	"1/2/3/4/5/6/7/8/9", long32 + "n", "a/" + long32 + "n", long128 + "n", "n" + long128, "a/" + strings.Repeat("b/", 70) + "c",
	"a:b", "a`", "a{", "a@", "a,", "a?", strings.Repeat("a", 1<<20),
}

// P4.1
func TestName(t *testing.T) {
	for _, s := range []string{"a", "z", "0", "9", "-", "_", "a.b", "a.", "-x", long32} {
		if !Name(s) {
			t.Errorf("%q is no name", s)
		}
	}
	for _, s := range append([]string{"a/b", "ab/", "/"}, badPaths...) {
		if Name(s) {
			t.Errorf("%.40q is a name", s)
		}
	}
	for b := range 256 {
		s := string([]byte{'a', byte(b)})
		if Name(s) != strings.Contains("abcdefghijklmnopqrstuvwxyz0123456789-_.", s[1:]) {
			t.Errorf("%q: %t", s, Name(s))
		}
	}
}

// P4.1
func TestGoodAndParts(t *testing.T) {
	for _, s := range goodPaths {
		if !Good(s) || !slices.Equal(Parts(s), strings.Split(s, "/")) {
			t.Errorf("%q: %t, %q", s, Good(s), Parts(s))
		}
	}
	for _, s := range badPaths {
		if Good(s) || len(Parts(s)) != 0 {
			t.Errorf("%.40q: %t, %q", s, Good(s), Parts(s))
		}
	}
	if len(long128) != 128 {
		t.Fatal("the longest path has another length")
	}
}

// P4.1
func TestJoin(t *testing.T) {
	for _, c := range []struct{ dir, s, want string }{
		{"a", "b/c", "a/b/c"}, {"", "b/c", "b/c"}, {"a/b", "c", "a/b/c"}, {"1/2/3/4", "5/6/7/8", "1/2/3/4/5/6/7/8"},
		{"", long128, long128}, {long128[:63], long128[64:], long128},
	} {
		if got, e := Join(c.dir, c.s); got != c.want || e != api.OK {
			t.Errorf("%q, %q: %q, %d", c.dir, c.s, got, e)
		}
	}
	for _, c := range []struct{ dir, s string }{
		{"a", ""}, {"", ""}, {"a/", "b"}, {"/", "b"}, {"a", "/b"}, {"A", "b"}, {"a", "B"}, {".", "b"},
		{"1/2/3/4", "5/6/7/8/9"}, {"1/2/3/4/5", "6/7/8/9"}, {long128, "a"}, {"a", long128},
	} {
		if got, e := Join(c.dir, c.s); got != "" || e != api.ErrPath {
			t.Errorf("%q, %q: %q, %d", c.dir, c.s, got, e)
		}
	}
}

// P4.1
func TestBase(t *testing.T) {
	for s, want := range map[string][2]string{"a": {"", "a"}, "a/b": {"a", "b"}, "a/b/c": {"a/b", "c"}} {
		if dir, name := Base(s); dir != want[0] || name != want[1] {
			t.Errorf("%q: %q, %q", s, dir, name)
		}
	}
	for _, s := range badPaths {
		if dir, name := Base(s); dir != "" || name != "" {
			t.Errorf("%.40q: %q, %q", s, dir, name)
		}
	}
}

// P4.1
func TestUnder(t *testing.T) {
	for _, c := range []struct{ dir, s, want string }{{"a", "a/b/c", "b/c"}, {"a/b", "a/b/c", "c"}, {"", "a/b", "a/b"}, {"", "a", "a"}} {
		if got, ok := Under(c.dir, c.s); got != c.want || !ok {
			t.Errorf("%q, %q: %q, %t", c.dir, c.s, got, ok)
		}
	}
	for _, c := range []struct{ dir, s string }{
		{"a", "ab"}, {"a", "a"}, {"a", "ab/c"}, {"b", "a/b"}, {"a/b/c", "a/b"}, {"", ""}, {"a", ""}, {"a", "a/"}, {"a", "a/B"},
		{"A", "A/b"}, {"a/", "a/b"}, {".", "./b"}, {"", ".b"}, {"/", "/a"}, {"a", "a//b"},
	} {
		if got, ok := Under(c.dir, c.s); got != "" || ok {
			t.Errorf("%q, %q: %q, %t", c.dir, c.s, got, ok)
		}
	}
}

func random(r *rand.Rand) string {
	parts := make([]string, 1+r.Intn(5))
	for i := range parts {
		for range 1 + r.Intn(3) {
			parts[i] += string("ab-_"[r.Intn(4)])
		}
	}
	return strings.Join(parts, "/")
}

// P4.2, P4.3
func TestThereAndBack(t *testing.T) {
	r := rand.New(rand.NewSource(1))
	for range 2000 {
		s, dir := random(r), random(r)
		ahead, name := Base(s)
		if got, e := Join(ahead, name); got != s || e != api.OK {
			t.Fatalf("%q: Base and Join make %q, %d", s, got, e)
		}
		got := ""
		for _, p := range Parts(s) {
			got, _ = Join(got, p)
		}
		if got != s {
			t.Fatalf("%q: Parts and Join make %q", s, got)
		}
		if both, e := Join(dir, s); e == api.OK {
			if got, ok := Under(dir, both); got != s || !ok {
				t.Fatalf("%q under %q: %q, %t", both, dir, got, ok)
			}
		} else if len(Parts(dir))+len(Parts(s)) <= 8 {
			t.Fatalf("%q, %q: %d", dir, s, e)
		}
	}
}

// P4.3
func TestStandsUnderWhatIsAhead(t *testing.T) {
	s := "a/ab/abc/a"
	var ahead []string
	for i := range s {
		if s[i] == '/' {
			ahead = append(ahead, s[:i])
		}
	}
	for i := range len(s) + 1 {
		if _, ok := Under(s[:i], s); ok != (i == 0 || slices.Contains(ahead, s[:i])) {
			t.Errorf("%q under %q: %t", s, s[:i], ok)
		}
	}
}

// P4.1
func TestNewMemory(t *testing.T) {
	one, two := Parts("a/b"), Parts("a/b")
	one[0] = "x"
	if two[0] != "a" {
		t.Error("two answers share memory")
	}
}
