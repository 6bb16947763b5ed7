package quote

import "testing"

var texts = map[string]string{
	"": `""`, "hi there": `"hi there"`, "a\"b\\c": `"a\22b\5cc"`, "\x00\x1f ~\x7f\xff\n": `"\00\1f ~\7f\ff\0a"`, "é": `"\c3\a9"`,
}

func TestText(t *testing.T) {
	for s, want := range texts {
		if got := Text(s); got != want {
			t.Errorf("%q: %s", s, got)
		}
		if got, ok := Whole(want); got != s || !ok {
			t.Errorf("%s: %q, %t", want, got, ok)
		}
		if got, rest, ok := Cut(want + `"x`); got != s || rest != `"x` || !ok {
			t.Errorf("%s: %q, %q, %t", want, got, rest, ok)
		}
		if got, ok := Whole(want + " "); got != "" || ok {
			t.Errorf("%s and a blank: %q, %t", want, got, ok)
		}
	}
	all := make([]byte, 256)
	for i := range all {
		all[i] = byte(i)
	}
	if got, ok := Whole(Text(string(all))); got != string(all) || !ok {
		t.Errorf("all bytes: %q, %t", got, ok)
	}
	if got, ok := Whole(`"\41\61"`); got != "Aa" || !ok {
		t.Errorf("bytes that may stand for themselves: %q, %t", got, ok)
	}
}

func TestNoText(t *testing.T) {
	for _, s := range []string{
		"", `"`, `"a`, `a"`, `x"a"`, `"\"`, `"\4"`, `"\4`, `"\`, `"\4G"`, `"\4A"`, `"\x41"`, "\"\n\"", "\"\x7f\"", "\"\xff\"", `"\22`, ` ""`, `"\ 41"`, "\"\t\"",
	} {
		if text, rest, ok := Cut(s); text != "" || rest != "" || ok {
			t.Errorf("%q: %q, %q, %t", s, text, rest, ok)
		}
	}
}
