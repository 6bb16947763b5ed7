package shelf

import (
	"iter"
	"maps"
	"math"
	"math/rand"
	"slices"
	"testing"
)

type seen[K Key, V any] struct {
	Key K
	Val V
}

func collect[K Key, V any](over iter.Seq2[K, V]) []seen[K, V] {
	var out []seen[K, V]
	for k, v := range over {
		out = append(out, seen[K, V]{k, v})
	}
	return out
}

// want answers the pairs of a map by rising keys.
func want(m map[int]string) []seen[int, string] {
	var out []seen[int, string]
	for _, k := range slices.Sorted(maps.Keys(m)) {
		out = append(out, seen[int, string]{k, m[k]})
	}
	return out
}

func from(m map[int]string) *Shelf[int, string] {
	s := New[int, string]()
	for k, v := range m {
		s.Put(k, v)
	}
	return s
}

// check holds a shelf against a map.
func check(t *testing.T, s *Shelf[int, string], m map[int]string) {
	t.Helper()
	all := want(m)
	if s.Len() != len(m) || !slices.Equal(collect(s.All()), all) {
		t.Fatalf("%v instead of %v", collect(s.All()), all)
	}
	back := slices.Clone(all)
	slices.Reverse(back)
	if !slices.Equal(collect(s.Back()), back) {
		t.Fatalf("back: %v instead of %v", collect(s.Back()), back)
	}
	for i := -2; i < len(all)+2; i++ {
		k, v, ok := s.At(i)
		if in := i >= 0 && i < len(all); ok != in || in && (k != all[i].Key || v != all[i].Val) || !in && (k != 0 || v != "") {
			t.Fatalf("at %d: %d %s %t", i, k, v, ok)
		}
	}
}

// P3.1
func TestExamples(t *testing.T) {
	s := from(map[int]string{3: "c", 1: "a", 2: "b"})
	check(t, s, map[int]string{3: "c", 1: "a", 2: "b"})
	for _, c := range []struct {
		from, to, first, count int
	}{{2, 9, 2, 2}, {2, 2, 0, 0}, {9, 2, 0, 0}, {1, 3, 1, 2}, {math.MinInt, math.MaxInt, 1, 3}, {4, 9, 0, 0}, {-5, 1, 0, 0}} {
		got := collect(s.Span(c.from, c.to))
		if len(got) != c.count || c.count > 0 && got[0].Key != c.first {
			t.Errorf("from %d to %d: %v", c.from, c.to, got)
		}
	}
}

// P3.1
func TestEveryOrder(t *testing.T) {
	r := rand.New(rand.NewSource(1))
	for range 60 {
		s, m := New[int, string](), map[int]string{}
		for range 150 {
			k, v := r.Intn(30)-15, string(rune('a'+r.Intn(26)))
			old, had := m[k]
			switch r.Intn(3) {
			case 0:
				if got, ok := s.Get(k); got != old || ok != had {
					t.Fatalf("Get %d: %s %t", k, got, ok)
				}
			case 1:
				if got, ok := s.Put(k, v); got != old || ok != had {
					t.Fatalf("Put %d: %s %t", k, got, ok)
				}
				m[k] = v
			case 2:
				if got, ok := s.Drop(k); got != old || ok != had {
					t.Fatalf("Drop %d: %s %t", k, got, ok)
				}
				delete(m, k)
			}
			check(t, s, m)
			lo, hi := r.Intn(40)-20, r.Intn(40)-20
			span := slices.DeleteFunc(want(m), func(p seen[int, string]) bool { return p.Key < lo || p.Key >= hi })
			if got := collect(s.Span(lo, hi)); !slices.Equal(got, span) {
				t.Fatalf("from %d to %d: %v instead of %v", lo, hi, got, span)
			}
		}
	}
}

type word string

// P3.1
func TestTextsRiseByBytes(t *testing.T) {
	s := New[word, []int]()
	for i, k := range []word{"b", "", "a/", "a", "a-", "é", "\xff", "Z", "aa"} {
		s.Put(k, []int{i})
	}
	got := ""
	for k := range s.All() {
		got += string(k) + ","
	}
	if got != ",Z,a,a-,a/,aa,b,é,\xff," {
		t.Errorf("%q", got)
	}
	if v, ok := s.Drop("nowhere"); v != nil || ok {
		t.Error("Drop of what isn't there")
	}
}

// P3.1
func TestNil(t *testing.T) {
	var s *Shelf[int, string]
	if v, ok := s.Put(1, "a"); v != "" || ok {
		t.Error("Put")
	}
	if v, ok := s.Get(1); v != "" || ok {
		t.Error("Get")
	}
	if v, ok := s.Drop(1); v != "" || ok {
		t.Error("Drop")
	}
	check(t, s, nil)
	if len(collect(s.Span(-9, 9))) != 0 {
		t.Error("Span")
	}
	c := s.Copy()
	if c == nil {
		t.Fatal("the copy is nil")
	}
	c.Put(1, "a")
	check(t, c, map[int]string{1: "a"})
}

// P3.2
func TestGoingOverSeesWhatWasThere(t *testing.T) {
	m := map[int]string{1: "a", 2: "b", 3: "c", 4: "d"}
	s := from(m)
	all, back, span := s.All(), s.Back(), s.Span(2, 4)
	count := 0
	for k := range all {
		s.Drop(k)
		s.Put(k+1, "x")
		s.Put(k+10, "y")
		count++
	}
	if count != 4 {
		t.Errorf("%d pairs", count)
	}
	for range 2 {
		if !slices.Equal(collect(all), want(m)) {
			t.Errorf("All: %v", collect(all))
		}
		if got := collect(back); len(got) != 4 || got[0].Val != "d" || got[3].Val != "a" {
			t.Errorf("Back: %v", got)
		}
		if got := collect(span); len(got) != 2 || got[0].Val != "b" || got[1].Val != "c" {
			t.Errorf("Span: %v", got)
		}
	}
}

// P3.2
func TestStoppedAndWithinOneAnother(t *testing.T) {
	s := from(map[int]string{1: "a", 2: "b", 3: "c"})
	for _, over := range []iter.Seq2[int, string]{s.All(), s.Back(), s.Span(0, 9)} {
		for stop := 1; stop < 4; stop++ {
			count := 0
			for range over {
				if count++; count == stop {
					break
				}
			}
			if count != stop {
				t.Errorf("stopped behind %d: %d", stop, count)
			}
		}
		within := 0
		for range over {
			for range over {
				within++
			}
		}
		if within != 9 {
			t.Errorf("within itself: %d", within)
		}
	}
}

// P3.3
func TestShelvesKnowNothingOfOneAnother(t *testing.T) {
	m := map[int]string{1: "a", 2: "b", 3: "c"}
	s := from(m)
	c, d := s.Copy(), New[int, string]()
	s.Put(1, "x")
	s.Put(4, "y")
	s.Drop(2)
	d.Put(7, "z")
	check(t, c, m)
	check(t, s, map[int]string{1: "x", 3: "c", 4: "y"})
	c.Drop(3)
	c.Put(0, "q")
	check(t, s, map[int]string{1: "x", 3: "c", 4: "y"})
	check(t, c, map[int]string{0: "q", 1: "a", 2: "b"})
}
