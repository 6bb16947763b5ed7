package cmd

import (
	"fmt"
	"math/rand"
	"strings"
	"testing"

	"sapling/api"
	"sapling/cas"
	"sapling/forge"
	"sapling/ribbon"
)

// quoted answers a text between quotes, with quotes and line feeds as scripts have them.
func quoted(s string) string {
	return `"` + strings.NewReplacer(`\`, `\5c`, `"`, `\22`, "\n", `\0a`).Replace(s) + `"`
}

// recipe answers the command for a recipe: a package, and fields, which are words, names and ranges, parted by blanks.
func recipe(p string, fields ...string) string {
	name, v, _ := strings.Cut(p, " ")
	s := fmt.Sprintf("package %q version %q", name, v)
	for _, f := range fields {
		part := strings.SplitN(f, " ", 3)
		s += fmt.Sprintf(" %s %q %q", part[0], part[1], part[2])
	}
	return "recipe " + quoted(s)
}

// prog answers the command for a tool's program, whose lines are parted by "; ".
func prog(s string) string { return "prog tool " + quoted(strings.ReplaceAll(s, "; ", "\n")) }

const copyA = `text "a"; text "in/src/a"; read; pop; write`

// says fails unless a script's commands say that; what is said stands in lines, each command is one of them.
func says(t *testing.T, want string, commands ...string) {
	t.Helper()
	got, at, e := Run(strings.Join(commands, "\n"))
	if strings.TrimSuffix(got, "\n") != want || at != 0 || e != api.OK || got != "" && !strings.HasSuffix(got, "\n") {
		t.Errorf("%s, %d, %d instead of\n%s", got, at, e, want)
	}
}

func lines(list ...string) string { return strings.Join(list, "\n") }

// said answers the last so many lines that commands say.
func said(t *testing.T, n int, commands ...string) string {
	t.Helper()
	got, at, e := Run(strings.Join(commands, "\n"))
	if at != 0 || e != api.OK {
		t.Fatalf("%d, %d", at, e)
	}
	list := strings.Split(strings.TrimSuffix(got, "\n"), "\n")
	return lines(list[max(0, len(list)-n):]...)
}

var key = cas.New(64).Key

// P25.1
func TestExample(t *testing.T) {
	says(t, lines("ok", "ok", `file a "x"`, "ok"), `file a "x"`, "seed src 1.0.0", "get src 1.0.0")
	says(t, "")
	says(t, "", "", "# nothing", "#", "")
	says(t, "ok", "show", "")
}

// app is the chapter's first example of the whole, up to the want.
var app = []string{prog(copyA), "seed cc 1.0.0", `file a "x"`, "seed src 1.0.0", recipe("app 1.0.0", "tool cc *", "build src *"), "seal", "want app 1.0.0"}

// P25.1, P25.2, and the examples of the whole
func TestExamplesOfTheWhole(t *testing.T) {
	seven := strings.Repeat("ok\n", 7)
	says(t, seven+lines("ok", `file a "x"`, "ok", "from app 1.0.0 1", "from cc 1.0.0 0", "from src 1.0.0 0", "ok", "ok"),
		append(app, "all", "get app 1.0.0", "audit app 1.0.0", "check app 1.0.0")...)
	says(t, lines("ok", "ok", "ok", "ok", "stage 0 cc 1.0.0", "stage 1 cc 2.0.0", "stage 2 cc 3.0.0", "ok"),
		prog("halt"), "seed cc 1.0.0", recipe("cc 3.0.0", "tool cc >=2.0.0"), recipe("cc 2.0.0", "tool cc <2.0.0"), "plan cc 3.0.0")
	says(t, lines("ok", "less x 1.0.0", "error 61", "ok", "error 61"), recipe("x 1.0.0", "tool x *"), "plan x 1.0.0", "seal", "want x 1.0.0")
	// The power goes in a build; and in the record of its end.
	says(t, seven+lines("ok", "steps 2 false", "ok", "ok", "error 14", "steps 0 false", "error 14", "ok", "steps 5 true", "ok", `file a "x"`, "ok"),
		append(app, "start app 1.0.0", "step app 1.0.0 2", "crash 0", "get app 1.0.0", "step app 1.0.0 5", "start app 1.0.0", "step app 1.0.0 4096", "get app 1.0.0")...)
	for keep, want := range map[int]string{0: "error 14", 5: "error 14", 1000: "file a \"x\"\nok"} {
		says(t, seven+lines("ok", "ok", "steps 5 true", "error 70", "error 70", "steps 0 false", "error 70", "ok", want),
			append(app, fmt.Sprint("arm 1 ", keep), "start app 1.0.0", "step app 1.0.0 9", "start app 1.0.0", "step app 1.0.0 9", "crash 0", "get app 1.0.0")...)
	}
	// A division by zero, and what waits for it.
	k := strings.Fields(said(t, 2, prog("push 1; push 0; div"), "seed cc 1.0.0", "show"))[5]
	says(t, lines("ok", "ok", "ok", "ok", "ok", "ok", "ok", "pkg app 1.0.0 failed 42", "pkg cc 1.0.0 done 0 "+k, "pkg top 1.0.0 waiting", "ok", "error 14"),
		prog("push 1; push 0; div"), "seed cc 1.0.0", recipe("app 1.0.0", "tool cc *"), recipe("top 1.0.0", "tool cc *", "build app *"), "seal", "want top 1.0.0", "all", "show", "start app 1.0.0")
	// What isn't among the inputs has no bytes.
	says(t, strings.Repeat("ok\n", 7)+lines("ok", `file a ""`, "ok"),
		prog(copyA), "seed cc 1.0.0", `file a "x"`, "seed src 1.0.0", recipe("app 1.0.0", "tool cc *"), "seal", "want app 1.0.0", "all", "get app 1.0.0")
	// lib 2 needs what isn't there.
	says(t, strings.Repeat("ok\n", 6)+lines("stage 0 cc 1.0.0", "stage 0 rt 1.0.0", "stage 1 lib 1.0.0", "stage 2 app 1.0.0", "ok"),
		prog("halt"), "seed cc 1.0.0", "seed rt 1.0.0", recipe("lib 1.0.0", "tool cc *", "run rt =1.0.0"), recipe("lib 2.0.0", "tool cc *", "run rt =2.0.0"),
		recipe("app 1.0.0", "tool cc *", "build lib *"), "plan app 1.0.0")
}

// P25.1
func TestShow(t *testing.T) {
	a := strings.Fields(said(t, 2, app[0], app[1], "show"))[5]
	out := key("((1:a1:x))")
	src := "pkg src 1.0.0 done 0 " + out
	for _, c := range []struct {
		state string
		more  []string
	}{
		{"ready", nil}, {"running", []string{"start app 1.0.0"}}, {"running", []string{"start app 1.0.0", "step app 1.0.0 4"}},
		{"done 1 " + out, []string{"start app 1.0.0", "step app 1.0.0 5"}}, {"ready", []string{"start app 1.0.0", "crash 9"}},
	} {
		want := lines("pkg app 1.0.0 "+c.state, "pkg cc 1.0.0 done 0 "+a, src, "ok")
		if got := said(t, 4, append(append(append([]string{}, app...), c.more...), "show")...); got != want {
			t.Errorf("%v: %s", c.more, got)
		}
	}
	if got := said(t, 4, append(append([]string{}, app[:6]...), "show")...); !strings.HasPrefix(got, "pkg app 1.0.0 waiting\n") {
		t.Errorf("%s", got)
	}
}

// P25.1
func TestFilesAndPrograms(t *testing.T) {
	long := strings.Repeat("x", 2049)
	want := lines(`file a/b "2\00\22\5c~"`, `file z ""`, "ok")
	says(t, lines("ok", "ok", "error 12", "error 3", "ok", "ok", "ok", want, "error 11", "ok", "error 11", want),
		`file z "\61"`, `file a/b "1"`, `file a "x"`, `file q "`+long+`"`, `file a/b "2\00\22\5c~"`, `file z ""`, "seed src 1.0.0", "get src 1.0.0", "seed src 1.0.0", `file lost ""`, "seed src 1.0.0", "get src 1.0.0")
}

// P25.1
func TestErrorsWithPlaces(t *testing.T) {
	says(t, lines("error 50 line 2", "error 11 line 3", "error 31 line 1", "error 30 line 2", "error 13 line 0", "error 3", "ok", "error 12", "ok", `file a "((4:halt))"`, "ok"),
		`prog a "halt\0anonsense"`, `prog a "x:\0ahalt\0ax:"`, `prog a "jump x"`, `prog a "halt\0aload 99"`, `prog a ""`,
		`prog a "`+strings.Repeat(`halt\0a`, 256)+`"`, `prog a "halt"`, `prog a/b "halt"`, "seed src 1.0.0", "get src 1.0.0")
	says(t, lines("error 50 at 17", "error 50 at 0", "error 3 at 0", "error 14 at 0", "ok", "error 11 at 0", "ok", "error 80 at 0"),
		`recipe "package a version"`, `recipe ""`, `recipe "`+strings.Repeat("x", 4097)+`"`, recipe("a 1.0.0"), recipe("a 1.0.0", "tool a *"), recipe("a 1.0.0", "tool a *"), "seal", `recipe "!"`)
}

// P25.1
func TestNoManager(t *testing.T) {
	// A torn record stands on the ribbon, and the power goes once more while it is cut off.
	start := []string{"arm 1 2", "seal", "arm 1 0", "crash 0"}
	says(t, lines("ok", "error 70", "ok", "error 70", "ok", "error 2", "error 2 at 0", "error 2", "error 2", "error 2", "steps 0 false", "error 2", "error 2", "error 2",
		"ok", "error 14", "error 14", "error 2", "ok", "ok", "error 2", "ok", "ok"),
		append(start, `file a "x"`, "seed a 1.0.0", `recipe "!"`, "seal", "want a 1.0.0", "start a 1.0.0", "step a 1.0.0 5", "all", "check a 1.0.0",
			"show", "get a 1.0.0", "audit a 1.0.0", "plan a 1.0.0", "arm 0 0", `file b "y"`, "seal", "crash 5", "seal")...)
}

// P25.1, P25.3
func TestLinesThatAreNoCommands(t *testing.T) {
	good := []string{
		`file a/b "x y"`, `prog a "halt"`, "seed a 1.0.0", `recipe ""`, "seal", "want a 0.0.0", "start a- 999.999.999", "all", "check _ 1.0.0", "step a 1.0.0 0", "step a 1.0.0 1000000",
		"crash 0", "arm 1000000 0", "show", "get a 1.0.0", "audit a 1.0.0", "plan a 1.0.0", "#x", "", `file a ""`,
	}
	for _, s := range []string{
		" ", "nonsense", "Seal", "seal ", " seal", "seal 1", "seed", "seed src", "seed src ", "seed src 1.0", "seed  src 1.0.0", "seed src  1.0.0", "seed src 1.0.0 ", "seed SRC 1.0.0", "seed a/b 1.0.0",
		"seed src 1.0.0 1", "seed src 01.0.0", "seed src 1000.0.0", "seed .a 1.0.0", `file a x`, `file a "x`, `file a "x" `, `file  a "x"`, `file a  "x"`, `file A "x"`, `file a/ "x"`, `file "x"`, "file a", "file a ",
		`file a "\4"`, "file a \"\t\"", `file a "x" "y"`, `prog "halt"`, `prog a halt`, `recipe`, "recipe ", `recipe x`, `recipe "x" "y"`, "step a 1.0.0", "step a 1.0.0 ", "step a 1.0.0 -1", "step a 1.0.0 01",
		"step a 1.0.0 1000001", "step a 1.0.0 x", "step a 1.0.0 5 5", "step a 1.0.0 +5", "step 1.0.0 a 5", "crash", "crash x", "crash -0", "crash 00", "crash 1 1", "arm 1", "arm 1 -1", "arm 1 1000001", "arm 1 2 3",
		"show all", "all 1", "get a", "get 1.0.0 a", "audit", "plan a 1.0.0.0", "want a 1.0.0\r", "\tseal", "seal\t", "é", `"seal"`, "seal#", "; seal", "crash 99999999999999999999",
	} {
		for n := range 4 {
			script := lines(append(append(append([]string{}, good[:n*6]...), s), good...)...)
			if got, at, e := Run(script); got != "" || at != n*6+1 || e != api.ErrLine {
				t.Errorf("%q behind %d lines: %q, %d, %d", s, n*6, got, at, e)
			}
		}
		if got, at, e := Run(lines(s, "nonsense", s)); got != "" || at != 1 || e != api.ErrLine {
			t.Errorf("%q: %q, %d, %d", s, got, at, e)
		}
	}
	if _, at, e := Run(lines(good...)); at != 0 || e != api.OK {
		t.Errorf("%d, %d", at, e)
	}
}

// P25.1
func TestLimits(t *testing.T) {
	if got, at, e := Run(strings.Repeat("show\n", 512) + "# x\n\n"); got != strings.Repeat("ok\n", 512) || at != 0 || e != api.OK {
		t.Errorf("512 commands: %d, %d", at, e)
	}
	if got, at, e := Run("#\n" + strings.Repeat("show\n", 512) + "\nshow\nnonsense"); got != "" || at != 515 || e != api.ErrLine {
		t.Errorf("513 commands: %d, %d", at, e)
	}
	if got, at, e := Run(strings.Repeat("show\n", 512) + "nonsense\nshow"); got != "" || at != 513 || e != api.ErrLine {
		t.Errorf("512 commands, and none: %d, %d", at, e)
	}
	long := "show\n#" + strings.Repeat("x", 65530)
	if got, at, e := Run(long); got != "ok\n" || at != 0 || e != api.OK {
		t.Errorf("65536 bytes: %d, %d", at, e)
	}
	if got, at, e := Run(long + "x"); got != "" || at != 0 || e != api.ErrLong {
		t.Errorf("65537 bytes: %d, %d", at, e)
	}
	if got, at, e := Run(strings.Repeat("\n", 65536)); got != "" || at != 0 || e != api.OK {
		t.Errorf("line feeds: %d, %d", at, e)
	}
}

// P25.2: a script that does what calls of a manager do says what these answer.
func TestSaysWhatTheCallsAnswer(t *testing.T) {
	r := rand.New(rand.NewSource(1))
	pkgs := []api.Pkg{{Name: "app", Version: api.Version{1, 0, 0}}, {Name: "cc", Version: api.Version{1, 0, 0}}, {Name: "no", Version: api.Version{1, 0, 0}}}
	for range 300 {
		x := ribbon.New(nil)
		g, _ := forge.Open(x, 64)
		script, want := []string{}, []string{}
		add := func(command string, e api.Errno, more ...string) {
			script = append(script, command)
			want = append(want, more...)
			if e == api.OK {
				want = append(want, "ok")
			} else {
				want = append(want, fmt.Sprint("error ", int(e)))
			}
		}
		for range 30 {
			p := pkgs[r.Intn(3)]
			s := p.Name + " 1.0.0"
			switch n := r.Intn(9); r.Intn(14) {
			case 0, 1:
				add("seed "+s, g.Seed(p, api.Tree{}))
			case 2, 3:
				text := `package "app" version "1.0.0" tool "cc" "*"`
				at, e := g.Recipe(text)
				if e == api.OK {
					add("recipe "+quoted(text), e)
				} else {
					add("recipe "+quoted(text), e)
					want[len(want)-1] += fmt.Sprint(" at ", at)
				}
			case 4:
				add("seal", g.Seal())
			case 5, 6:
				add("want "+s, g.Want(p))
			case 7:
				add("start "+s, g.Start(p))
			case 8:
				did, done, e := g.Step(p, n)
				add(fmt.Sprint("step ", s, " ", n), e, fmt.Sprint("steps ", did, " ", done))
			case 9:
				add("all", g.All())
			case 10:
				add("check "+s, g.Check(p))
			case 11:
				x.Off(n)
				x.On()
				var e api.Errno
				g, e = forge.Open(x, 64)
				add(fmt.Sprint("crash ", n), e)
			case 12:
				m := r.Intn(9)
				x.Arm(m, n)
				add(fmt.Sprint("arm ", m, " ", n), api.OK)
			case 13:
				list, e := g.Plan(p)
				var more []string
				for _, x := range list.Entries {
					more = append(more, fmt.Sprint("stage ", x.Stage, " ", x.Pkg.Name, " 1.0.0"))
				}
				for _, x := range list.Less {
					more = append(more, fmt.Sprint("less ", x.Name, " 1.0.0"))
				}
				add("plan "+s, e, more...)
			}
		}
		if got, _, e := Run(lines(script...)); got != lines(want...)+"\n" || e != api.OK {
			t.Fatalf("%s\nsays\n%s\ninstead of\n%s", lines(script...), got, lines(want...))
		}
		last := 0
		for _, l := range want {
			if strings.HasPrefix(l, "ok") || strings.HasPrefix(l, "error ") {
				last++
			}
		}
		if last != len(script) {
			t.Fatalf("%d last lines of %d commands", last, len(script))
		}
	}
}
