package cas

import (
	"maps"
	"math"
	"math/rand"
	"slices"
	"strings"
	"testing"

	"sapling/api"
	"sapling/mix"
)

// P21.1
func TestKeys(t *testing.T) {
	for _, width := range []int{math.MinInt, -1, 0, 1, 5, 63, 64, math.MaxInt} {
		s := New(width)
		for _, b := range []string{"", "a", "ab", strings.Repeat("x", 70000)} {
			if got := s.Key(b); got != mix.Text(mix.Narrow(mix.Of(b), width)) {
				t.Errorf("%d: %.9q: %s", width, b, got)
			}
		}
	}
}

// P21.1
func TestExample(t *testing.T) {
	s := New(0)
	key := strings.Repeat("a", 13)
	for range 2 {
		if got, e := s.Put("a"); got != key || e != api.OK || s.Len() != 1 {
			t.Errorf("%s, %d", got, e)
		}
	}
	if got, e := s.Put("b"); got != "" || e != api.ErrKeyClash || s.Try("b") != api.ErrKeyClash || s.Try("a") != api.OK {
		t.Errorf("%s, %d", got, e)
	}
	if b, ok := s.Get(key); b != "a" || !ok || s.Len() != 1 {
		t.Errorf("%q, %t", b, ok)
	}
	if b, ok := s.Get("a"); b != "" || ok {
		t.Errorf("%q, %t", b, ok)
	}
}

// P21.1
func TestErrors(t *testing.T) {
	var none *Store
	long := strings.Repeat("x", 65537)
	if key, e := none.Put(long); key != "" || e != api.ErrNil || none.Try("a") != api.ErrNil || none.Key("a") != "" || none.Len() != 0 {
		t.Errorf("a nil store: %s, %d", key, e)
	}
	if b, ok := none.Get(""); b != "" || ok || len(maps.Collect(none.All())) != 0 {
		t.Error("a nil store has something")
	}
	s := New(0)
	s.Put("a")
	if key, e := s.Put(long); key != "" || e != api.ErrLong || s.Try(long) != api.ErrLong || s.Len() != 1 {
		t.Errorf("too long: %s, %d", key, e)
	}
	if key, e := New(64).Put(long[1:]); key != mix.Text(mix.Of(long[1:])) || e != api.OK {
		t.Errorf("just so long: %s, %d", key, e)
	}
	if s.Try("a") != api.OK || New(3).Try("") != api.OK {
		t.Error("what can be put")
	}
}

// P21.1, P21.2
func TestEveryOrder(t *testing.T) {
	r := rand.New(rand.NewSource(1))
	for _, width := range []int{0, 2, 5, 64} {
		s, want := New(width), map[string]string{}
		for range 300 {
			b := strings.Repeat(string(rune('a'+r.Intn(26))), r.Intn(4))
			key := s.Key(b)
			there, had := want[key]
			e := api.OK
			if had && there != b {
				e = api.ErrKeyClash
			}
			if r.Intn(2) == 0 {
				if got := s.Try(b); got != e {
					t.Fatalf("%q: %d instead of %d", b, got, e)
				}
				continue
			}
			got, f := s.Put(b)
			if f != e || e == api.OK && got != key || e != api.OK && got != "" {
				t.Fatalf("%q: %s, %d instead of %s, %d", b, got, f, key, e)
			}
			if e == api.OK {
				want[key] = b
			}
			if s.Len() != len(want) {
				t.Fatalf("%d objects instead of %d", s.Len(), len(want))
			}
			var keys []string
			for k, v := range s.All() {
				if got, ok := s.Get(k); want[k] != v || s.Key(v) != k || got != v || !ok {
					t.Fatalf("%s: %q", k, v)
				}
				keys = append(keys, k)
			}
			if !slices.Equal(keys, slices.Sorted(maps.Keys(want))) {
				t.Fatalf("%q", keys)
			}
		}
	}
}

// P21.1, P21.3
func TestGoingOver(t *testing.T) {
	s, o := New(64), New(64)
	s.Put("a")
	s.Put("b")
	over := s.All()
	s.Put("c")
	o.Put("d")
	for range 2 {
		if got := maps.Collect(over); len(got) != 2 {
			t.Errorf("%v", got)
		}
	}
	count := 0
	for range over {
		for range over {
			count++
			break
		}
	}
	if _, ok := s.Get(s.Key("d")); ok || count != 2 || s.Len() != 3 || o.Len() != 1 {
		t.Errorf("%d turns, %d and %d objects", count, s.Len(), o.Len())
	}
}
