package log

import (
	"fmt"
	"math/rand"
	"slices"
	"strings"
	"testing"

	"sapling/api"
	"sapling/ribbon"
)

func open(t *testing.T, r *ribbon.Ribbon) (*Log, []string) {
	t.Helper()
	l, list, e := Open(r)
	if e != api.OK {
		t.Fatalf("Open: %d", e)
	}
	return l, list
}

func raw(t *testing.T, r *ribbon.Ribbon) string {
	t.Helper()
	b, e := r.Read()
	if e != api.OK {
		t.Fatalf("Read: %d", e)
	}
	return string(b)
}

// P20.1
func TestExample(t *testing.T) {
	r := ribbon.New(nil)
	l, list := open(t, r)
	if len(list) != 0 || l.Count() != 0 || r.Acts() != 0 {
		t.Errorf("%q, %d acts", list, r.Acts())
	}
	if e := l.Append("hi"); e != api.OK || raw(t, r) != "\x00\x00\x02hi" || r.Acts() != 2 || l.Count() != 1 {
		t.Errorf("%d, %q, %d acts", e, raw(t, r), r.Acts())
	}
	r = ribbon.New([]byte("\x00\x00\x02h"))
	if _, list := open(t, r); len(list) != 0 || raw(t, r) != "" || r.Acts() != 1 {
		t.Errorf("%q, %d acts", list, r.Acts())
	}
}

// P20.1
func TestOpen(t *testing.T) {
	long := strings.Repeat("x", 65536)
	for s, want := range map[string]struct {
		list []string
		acts int
		e    api.Errno
	}{
		"":                               {nil, 0, api.OK},
		"\x00":                           {nil, 1, api.OK},
		"\x00\x00":                       {nil, 1, api.OK},
		"\xff\xff":                       {nil, 1, api.OK},
		"\x00\x00\x00":                   {[]string{""}, 0, api.OK},
		"\x00\x00\x01a\x00\x00\x00":      {[]string{"a", ""}, 0, api.OK},
		"\x00\x00\x01a\x00\x00":          {[]string{"a"}, 1, api.OK},
		"\x00\x00\x01a\x00\x00\x03bc":    {[]string{"a"}, 1, api.OK},
		"\x01\x00\x00" + long:            {[]string{long}, 0, api.OK},
		"\x01\x00\x00" + long[1:]:        {nil, 1, api.OK},
		"\x00\x01\x00" + long[:257] + "": {[]string{long[:256]}, 1, api.OK},
		"\x01\x00\x01" + long + "x":      {nil, 0, api.ErrForm},
		"\x01\x00\x01":                   {nil, 0, api.ErrForm},
		"\xff\xff\xff":                   {nil, 0, api.ErrForm},
		"\x00\x00\x01a\x02\x00\x00rest":  {nil, 0, api.ErrForm},
	} {
		r := ribbon.New([]byte(s))
		l, list, e := Open(r)
		if e != want.e || !slices.Equal(list, want.list) || r.Acts() != want.acts || (l == nil) != (e != api.OK) || l.Count() != len(want.list) {
			t.Errorf("%.20q: %d records, %d acts, %d", s, len(list), r.Acts(), e)
		}
		if e != api.OK {
			if raw(t, r) != s {
				t.Errorf("%.20q: the ribbon is changed", s)
			}
			continue
		}
		before := raw(t, r)
		if _, again := open(t, r); !slices.Equal(again, want.list) || r.Acts() != want.acts || raw(t, r) != before {
			t.Errorf("%.20q: opened again: %d records, %d acts", s, len(again), r.Acts())
		}
	}
	if l, list, e := Open(nil); l != nil || len(list) != 0 || e != api.ErrNil {
		t.Errorf("a nil ribbon: %d", e)
	}
	r := ribbon.New([]byte("\xff\xff\xff"))
	r.Off(0)
	if l, list, e := Open(r); l != nil || len(list) != 0 || e != api.ErrDown {
		t.Errorf("the power is off: %d", e)
	}
	r = ribbon.New([]byte("\x00"))
	r.Arm(1, 0)
	if l, list, e := Open(r); l != nil || len(list) != 0 || e != api.ErrDown || r.Acts() != 1 {
		t.Errorf("the power goes: %d", e)
	}
}

// P20.1, P20.3
func TestRefused(t *testing.T) {
	var none *Log
	if none.Append("") != api.ErrNil || none.Append(strings.Repeat("x", 65537)) != api.ErrNil || none.Count() != 0 {
		t.Error("a nil log")
	}
	r := ribbon.New(nil)
	l, _ := open(t, r)
	long := strings.Repeat("x", 65537)
	if e := l.Append(long); e != api.ErrLong || r.Acts() != 0 || l.Count() != 0 {
		t.Errorf("too long: %d", e)
	}
	count := 0
	for l.Append(long[1:]) == api.OK {
		count++
	}
	before := raw(t, r)
	if count != 15 || len(before) != 15*65539 || l.Count() != 15 {
		t.Errorf("%d records, %d bytes", count, len(before))
	}
	room := 1<<20 - len(before)
	for range 2 {
		if e := l.Append(long[:room-2]); e != api.ErrFull || raw(t, r) != before || l.Count() != 15 || r.Acts() != 30 {
			t.Errorf("full: %d, %d acts", e, r.Acts())
		}
	}
	if e := l.Append(long); e != api.ErrLong {
		t.Errorf("too long: %d", e)
	}
	if e := l.Append(long[:room-3]); e != api.OK || len(raw(t, r)) != 1<<20 || l.Count() != 16 {
		t.Errorf("what fits: %d", e)
	}
	if e := l.Append(""); e != api.ErrFull {
		t.Errorf("full: %d", e)
	}
	if _, list := open(t, r); len(list) != 16 {
		t.Errorf("%d records", len(list))
	}
}

// P20.1
func TestDownFromThenOn(t *testing.T) {
	for n := 1; n <= 2; n++ {
		r := ribbon.New(nil)
		l, _ := open(t, r)
		r.Arm(n, 0)
		if e := l.Append("a"); e != api.ErrDown || r.Acts() != n || l.Count() != 0 {
			t.Errorf("%d: %d, %d acts", n, e, r.Acts())
		}
		r.On()
		if l.Append("b") != api.ErrDown || l.Append(strings.Repeat("x", 65537)) != api.ErrLong || r.Acts() != n || raw(t, r) != "" {
			t.Errorf("%d: a log that met a loss of power does something", n)
		}
	}
	r := ribbon.New(nil)
	l, _ := open(t, r)
	r.Off(0)
	if e := l.Append("a"); e != api.ErrDown || r.Acts() != 0 {
		t.Errorf("off: %d, %d acts", e, r.Acts())
	}
	r.On()
	if e := l.Append("a"); e != api.ErrDown {
		t.Errorf("off, met once: %d", e)
	}
	l, _ = open(t, r)
	r.Off(0)
	r.On()
	if e := l.Append("a"); e != api.OK || raw(t, r) != "\x00\x00\x01a" {
		t.Errorf("off and on between two calls: %d", e)
	}
}

// P20.2
func TestForGood(t *testing.T) {
	records := []string{"one", "", "three", "\x00\x00\x05"}
	for n := 1; n <= 9; n++ {
		for keep := -1; keep < 10; keep++ {
			r := ribbon.New([]byte("\x00\x00\x04zero\x00\x00"))
			r.Arm(n, keep)
			told := []string{"zero"}
			l, _, e := Open(r)
			var under []string
			for _, s := range records {
				if e != api.OK {
					break
				}
				if e = l.Append(s); e == api.OK {
					told = append(told, s)
				} else {
					under = append(slices.Clone(told), s)
				}
			}
			r.On()
			// The power goes once more while what is left behind is cut off.
			r.Arm(1, keep)
			if _, list, e := Open(r); e == api.OK {
				if !slices.Equal(list, told) && !slices.Equal(list, under) {
					t.Fatalf("%d, %d: %q", n, keep, list)
				}
				r.Arm(0, 0)
			}
			r.On()
			l, list := open(t, r)
			if !slices.Equal(list, told) && (under == nil || !slices.Equal(list, under)) {
				t.Fatalf("%d, %d: %q instead of %q", n, keep, list, told)
			}
			if e := l.Append("more"); e != api.OK || l.Count() != len(list)+1 {
				t.Fatalf("%d, %d: %d", n, keep, e)
			}
			if _, again := open(t, r); !slices.Equal(again, append(list, "more")) {
				t.Fatalf("%d, %d: %q", n, keep, again)
			}
		}
	}
}

// P20.2, P20.3
func TestManyLosses(t *testing.T) {
	r := rand.New(rand.NewSource(1))
	for range 200 {
		x := ribbon.New(nil)
		var told []string
		for turn := range 20 {
			x.Arm(r.Intn(9), r.Intn(9)-1)
			l, list, e := Open(x)
			under := ""
			if e == api.OK {
				if len(list) == len(told)+1 {
					told = append(told, list[len(told)])
				}
				if !slices.Equal(list, told) || l.Count() != len(told) {
					t.Fatalf("%q instead of %q", list, told)
				}
			}
			for i := 0; e == api.OK && i < r.Intn(6); i++ {
				under = fmt.Sprint(turn, ".", i, strings.Repeat("x", r.Intn(3)))
				if e = l.Append(under); e == api.OK {
					told = append(told, under)
				}
			}
			x.On()
			x.Arm(0, 0)
			if _, list := open(t, x); !slices.Equal(list, told) {
				if e != api.ErrDown || !slices.Equal(list, append(slices.Clone(told), under)) {
					t.Fatalf("%q instead of %q", list, told)
				}
				told = list
			}
		}
	}
}
