package ribbon

import (
	"bytes"
	"math"
	"math/rand"
	"testing"

	"sapling/api"
)

// read answers a ribbon's bytes as a text.
func read(t *testing.T, r *Ribbon) string {
	t.Helper()
	b, e := r.Read()
	if e != api.OK {
		t.Fatalf("Read: %d", e)
	}
	return string(b)
}

func must(t *testing.T, list ...api.Errno) {
	t.Helper()
	for i, e := range list {
		if e != api.OK {
			t.Fatalf("%d: %d", i, e)
		}
	}
}

// P19.1
func TestExample(t *testing.T) {
	for keep, want := range map[int]string{1: "abc", 0: "ab", -1: "ab", 2: "abcd", 3: "abcd", math.MaxInt: "abcd", math.MinInt: "ab"} {
		r := New(nil)
		must(t, r.Write([]byte("ab")), r.Flush(), r.Write([]byte("c")), r.Write([]byte("d")))
		if got := read(t, r); got != "abcd" {
			t.Errorf("all bytes: %q", got)
		}
		r.Off(keep)
		r.Off(9)
		if b, e := r.Read(); len(b) != 0 || e != api.ErrDown || !r.Down() || r.Acts() != 4 {
			t.Errorf("off: %q, %d", b, e)
		}
		if r.Write(nil) != api.ErrDown || r.Flush() != api.ErrDown || r.Cut(0) != api.ErrDown || r.Cut(-1) != api.ErrDown || r.Write(make([]byte, 1<<21)) != api.ErrDown {
			t.Error("something can be done without power")
		}
		r.On()
		if got := read(t, r); got != want || r.Down() || r.Acts() != 4 {
			t.Errorf("%d: %q, %d acts", keep, got, r.Acts())
		}
		r.Off(0)
		r.On()
		if got := read(t, r); got != want {
			t.Errorf("%d: not all was safe: %q", keep, got)
		}
	}
}

// P19.1
func TestNil(t *testing.T) {
	var r *Ribbon
	r.Off(1)
	r.On()
	r.Arm(1, 1)
	b, e := r.Read()
	if r.Down() || r.Acts() != 0 || r.Write(nil) != api.ErrNil || r.Flush() != api.ErrNil || r.Cut(-1) != api.ErrNil || e != api.ErrNil || len(b) != 0 {
		t.Error("a nil ribbon")
	}
}

// P19.1
func TestFullAndCut(t *testing.T) {
	r := New(make([]byte, 1<<20+5))
	if got := read(t, r); len(got) != 1<<20 {
		t.Errorf("%d bytes", len(got))
	}
	r.Arm(3, 0)
	if r.Write([]byte("x")) != api.ErrFull || r.Write(nil) != api.OK || r.Acts() != 1 {
		t.Errorf("full: %d acts", r.Acts())
	}
	if r.Cut(1<<20+1) != api.ErrArg || r.Cut(-1) != api.ErrArg || r.Cut(math.MinInt) != api.ErrArg || r.Cut(math.MaxInt) != api.ErrArg || r.Acts() != 1 {
		t.Errorf("cut: %d acts", r.Acts())
	}
	must(t, r.Cut(1<<20-3))
	if r.Write([]byte("four")) != api.ErrFull || r.Write([]byte("xyz")) != api.ErrDown || r.Acts() != 3 {
		t.Errorf("%d acts", r.Acts())
	}
	r.On()
	if got := read(t, r); len(got) != 1<<20-3 {
		t.Errorf("%d bytes", len(got))
	}
	must(t, r.Write([]byte("xyz")), r.Cut(1<<20-1))
	r.Off(-1)
	r.On()
	if got := read(t, r); len(got) != 1<<20-1 || got[len(got)-2:] != "xy" {
		t.Errorf("%d bytes", len(got))
	}
	must(t, r.Cut(0), r.Cut(0))
	if got := read(t, r); got != "" {
		t.Errorf("%q", got)
	}
}

// P19.1
func TestArm(t *testing.T) {
	for i, c := range []struct {
		n, keep int
		want    string // what is there behind the loss
		acts    int    // and how many acts there were
	}{
		{1, 0, "ab", 1}, {1, 1, "abc", 1}, {1, 9, "abcd", 1}, {1, -1, "ab", 1}, {2, 3, "abcde", 2}, {2, 0, "ab", 2}, {3, 1, "abc", 3}, {3, 9, "abcdef", 3},
		{4, 0, "abcdef", 4}, {5, 2, "abcdef", 5}, {5, 0, "abcdef", 5}, {6, 0, "ab", 6}, {6, 9, "ab", 6}, {0, 5, "", 6}, {-3, 5, "", 6}, {7, 0, "", 6},
	} {
		r := New([]byte("ab"))
		r.Arm(1, 0)
		r.Arm(c.n, c.keep)
		acts := []func() api.Errno{
			func() api.Errno { return r.Write([]byte("cd")) }, func() api.Errno { return r.Write([]byte("ef")) }, r.Flush, func() api.Errno { return r.Write(nil) },
			func() api.Errno { return r.Cut(2) }, func() api.Errno { return r.Cut(0) },
		}
		var e api.Errno
		for _, act := range acts {
			if e = act(); e != api.OK {
				break
			}
		}
		if lost := c.want != ""; lost != (e == api.ErrDown) || lost != r.Down() || r.Acts() != c.acts {
			t.Errorf("%d: %d, %t, %d acts", i, e, r.Down(), r.Acts())
		}
		r.On()
		if got := read(t, r); got != c.want {
			t.Errorf("%d: %q", i, got)
		}
		if c.n < 7 && (r.Write(nil) != api.OK || r.Flush() != api.OK) {
			t.Errorf("%d: it is armed still", i)
		}
	}
}

// P19.1
func TestArmedWhileOff(t *testing.T) {
	r := New(nil)
	r.Arm(1, 0)
	r.Off(0)
	r.On()
	must(t, r.Flush())
	r.Off(0)
	r.Arm(1, 1)
	r.Off(5)
	r.On()
	if e := r.Write([]byte("xy")); e != api.ErrDown || r.Acts() != 2 {
		t.Errorf("what was armed while it was off is gone: %d", e)
	}
	r.On()
	if got := read(t, r); got != "x" {
		t.Errorf("%q", got)
	}
	r.Arm(2, 0)
	r.Arm(0, 0)
	must(t, r.Flush(), r.Flush(), r.Flush())
}

// P19.1, P19.2
func TestEveryOrder(t *testing.T) {
	r := rand.New(rand.NewSource(1))
	for range 500 {
		safe, waits, down, acts, armed, keep := "start", "", false, 0, 0, 0
		x := New([]byte(safe))
		lose := func(k int) {
			safe, waits, down, armed = safe+waits[:min(max(k, 0), len(waits))], "", true, 0
		}
		act := func(do func()) api.Errno {
			acts++
			if armed--; armed == 0 {
				lose(keep)
				return api.ErrDown
			}
			do()
			return api.OK
		}
		for range 60 {
			before := safe
			var got, want api.Errno
			switch n := r.Intn(9) - 1; r.Intn(8) {
			case 0, 1:
				b := make([]byte, max(n, 0))
				r.Read(b)
				got, want = x.Write(b), api.ErrDown
				if !down {
					waits += string(b)
					want = act(func() {})
				}
			case 2:
				got, want = x.Flush(), api.ErrDown
				if !down {
					want = act(func() { safe, waits = safe+waits, "" })
				}
			case 3:
				got, want = x.Cut(n), api.ErrDown
				if all := safe + waits; !down && (n < 0 || n > len(all)) {
					want = api.ErrArg
				} else if !down {
					want = act(func() { safe, waits, before = all[:n], "", "" })
				}
			case 4:
				if x.Off(n); !down {
					lose(n)
				}
			case 5, 6:
				x.On()
				down = false
			case 7:
				x.Arm(n, n)
				armed, keep = max(n, 0), n
			}
			b, e := x.Read()
			if got != want || x.Down() != down || x.Acts() != acts || e == api.OK == down || !down && string(b) != safe+waits || len(safe) < len(before) {
				t.Fatalf("%d instead of %d; %q, %d instead of %q, %q", got, want, b, e, safe, waits)
			}
		}
	}
}

// P19.3
func TestNewMemory(t *testing.T) {
	b := append(make([]byte, 0, 9), "ab"...)
	r, s := New(b), New(b)
	must(t, r.Write([]byte("cd")))
	b[0] = 'x'
	w := []byte("ef")
	must(t, r.Write(w))
	w[0] = 'x'
	one, _ := r.Read()
	one[0] = 'y'
	_ = append(one, "zz"...)
	if got := read(t, r); got != "abcdef" {
		t.Errorf("%q", got)
	}
	if got := read(t, s); got != "ab" || !bytes.Equal(b[:4], []byte("xb\x00\x00")) {
		t.Errorf("%q, %q", got, b[:4])
	}
	r.Off(0)
	if s.Down() || s.Acts() != 0 {
		t.Error("two ribbons know of one another")
	}
}
