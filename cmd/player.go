package cmd

import (
	"slices"
	"strconv"
	"strings"

	"sapling/api"
	"sapling/asm"
	"sapling/code"
	"sapling/forge"
	"sapling/quote"
	"sapling/ribbon"
	"sapling/tree"
	"sapling/version"
)

// keyBits is the width of the manager's keys.
const keyBits = 64

// player runs commands, and has what they said.
type player struct {
	strings.Builder
	ribbon *ribbon.Ribbon
	forge  *forge.Forge
	making api.Tree
}

// begin answers a player over a ribbon without bytes.
func begin() *player {
	p := &player{ribbon: ribbon.New(nil)}
	// Nothing stands on the ribbon that could be wrong.
	p.forge, _ = forge.Open(p.ribbon, keyBits)
	return p
}

// say says a line of words.
func (p *player) say(words ...string) {
	p.WriteString(strings.Join(words, " "))
	p.WriteString("\n")
}

// end says a command's last line; more is told beside an error.
func (p *player) end(e api.Errno, more ...string) {
	if e == api.OK {
		p.say("ok")
		return
	}
	p.say(append([]string{"error", strconv.Itoa(int(e))}, more...)...)
}

// play runs one command.
func (p *player) play(c command) {
	switch c.word {
	case "file":
		p.file(c.path, c.text)
	case "prog":
		p.prog(c)
	case "seed":
		e := p.forge.Seed(c.pkg, p.making)
		p.making = api.Tree{}
		p.end(e)
	case "recipe":
		at, e := p.forge.Recipe(c.text)
		p.end(e, "at", strconv.Itoa(at))
	case "seal":
		p.end(p.forge.Seal())
	case "want":
		p.end(p.forge.Want(c.pkg))
	case "start":
		p.end(p.forge.Start(c.pkg))
	case "all":
		p.end(p.forge.All())
	case "check":
		p.end(p.forge.Check(c.pkg))
	case "step":
		did, done, e := p.forge.Step(c.pkg, c.numbers[0])
		p.say("steps", strconv.Itoa(did), strconv.FormatBool(done))
		p.end(e)
	default:
		p.look(c)
	}
}

// look runs a command of the power, or one that asks.
func (p *player) look(c command) {
	switch c.word {
	case "crash":
		p.crash(c.numbers[0])
	case "arm":
		p.ribbon.Arm(c.numbers[0], c.numbers[1])
		p.end(api.OK)
	case "show":
		p.show()
	case "get":
		p.get(c.pkg)
	case "audit":
		p.audit(c.pkg)
	case "plan":
		p.plan(c.pkg)
	}
}

// file puts a file into the tree in the making.
func (p *player) file(name, data string) {
	t, e := tree.Put(p.making, api.File{Path: name, Data: data})
	if e == api.OK {
		p.making = t
	}
	p.end(e)
}

func (p *player) prog(c command) {
	list, line, e := asm.Assemble(c.text)
	if e != api.OK {
		p.end(e, "line", strconv.Itoa(line))
		return
	}
	data, e := code.Encode(list)
	if e != api.OK {
		p.end(e)
		return
	}
	p.file(c.path, data)
}

func (p *player) crash(keep int) {
	p.ribbon.Off(keep)
	p.ribbon.On()
	g, e := forge.Open(p.ribbon, keyBits)
	p.forge = g
	p.end(e)
}

func (p *player) show() {
	running, ready := slices.Collect(p.forge.Running()), slices.Collect(p.forge.Ready())
	for q := range p.forge.Packs() {
		words := append([]string{"pkg", q.Name, version.Text(q.Version)}, p.settled(q)...)
		if len(words) == 3 {
			words = append(words, pending(q, running, ready))
		}
		p.say(words...)
	}
	p.end(api.OK)
}

// settled answers what came of a package; nothing, if nothing did yet.
func (p *player) settled(q api.Pkg) []string {
	for r := range p.forge.Audit(q) { // the first one is its own
		return []string{"done", strconv.Itoa(r.Rank), r.Out}
	}
	if e, failed := p.forge.Fate(q); failed {
		return []string{"failed", strconv.Itoa(int(e))}
	}
	return nil
}

// pending answers how it stands with a package of which nothing came yet.
func pending(q api.Pkg, running, ready []api.Pkg) string {
	if slices.Contains(running, q) {
		return "running"
	}
	if slices.Contains(ready, q) {
		return "ready"
	}
	return "waiting"
}

func (p *player) get(q api.Pkg) {
	t, ok := p.forge.Object(q)
	if !ok {
		p.end(api.ErrNone)
		return
	}
	for _, f := range t.Files {
		p.say("file", f.Path, quote.Text(f.Data))
	}
	p.end(api.OK)
}

func (p *player) audit(q api.Pkg) {
	e := api.ErrNone
	for r := range p.forge.Audit(q) {
		p.say("from", r.Pkg.Name, version.Text(r.Pkg.Version), strconv.Itoa(r.Rank))
		e = api.OK
	}
	p.end(e)
}

func (p *player) plan(q api.Pkg) {
	list, e := p.forge.Plan(q)
	for _, x := range list.Entries {
		p.say("stage", strconv.Itoa(x.Stage), x.Pkg.Name, version.Text(x.Pkg.Version))
	}
	for _, x := range list.Less {
		p.say("less", x.Name, version.Text(x.Version))
	}
	p.end(e)
}
