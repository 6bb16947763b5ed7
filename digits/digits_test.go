package digits

import "testing"

func TestParse(t *testing.T) {
	good := map[string]int{"0": 0, "7": 7, "-1": -1, "1020003": 1020003, "9223372036854775807": 1<<63 - 1, "-9223372036854775808": -1 << 63}
	for s, n := range good {
		if got, ok := Parse(s); got != n || !ok {
			t.Errorf("%q: %d, %t", s, got, ok)
		}
	}
	for _, s := range []string{"", "-", "+1", "01", "00", "-0", "-01", "1 ", " 1", "1_0", "0x1", "1e3", "9223372036854775808", "-9223372036854775809", "١"} {
		if got, ok := Parse(s); got != 0 || ok {
			t.Errorf("%q: %d, %t", s, got, ok)
		}
	}
}
