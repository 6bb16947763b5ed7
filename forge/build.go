package forge

import (
	"slices"
	"strconv"

	"sapling/api"
	"sapling/code"
	"sapling/stock"
	"sapling/tree"
	"sapling/view"
	"sapling/vm"
)

const (
	toolFile = "tool" // where a tool's tree has its program
	inputs   = "in/"  // ahead of the places of what a build takes
)

// need adds entries to those that the wants need.
func (g *Forge) need(entries []api.Entry) {
	list := append(g.needed, entries...)
	slices.SortFunc(list, func(x, y api.Entry) int { return stock.Compare(x.Pkg, y.Pkg) })
	g.needed = slices.CompactFunc(list, func(x, y api.Entry) bool { return x.Pkg == y.Pkg })
}

// find answers the needed entry of a package that is of some kind, and true; false, if there is none.
func (g *Forge) find(p api.Pkg, kind func(api.Entry) bool) (api.Entry, bool) {
	i := slices.IndexFunc(g.needed, func(x api.Entry) bool { return x.Pkg == p && kind(x) })
	if i < 0 {
		return api.Entry{}, false
	}
	return g.needed[i], true
}

// lacks answers whether a package has no record.
func (g *Forge) lacks(p api.Pkg) bool {
	_, ok := g.book.Get(p)
	return !ok
}

// canEnd answers whether an entry is open, and all that its choice has is there.
func (g *Forge) canEnd(x api.Entry) bool {
	_, failed := g.fates[x.Pkg]
	open := g.lacks(x.Pkg) && !failed
	return open && !g.lacks(x.Choice.Tool) && !slices.ContainsFunc(x.Choice.With, g.lacks)
}

// canStart answers whether a needed entry can be started.
func (g *Forge) canStart(x api.Entry) bool { return g.canEnd(x) && !g.sched.Has(x.Pkg) }

// ready answers the packages of the entries that can be started.
func (g *Forge) ready() []api.Pkg {
	if g == nil {
		return nil
	}
	var out []api.Pkg
	for _, x := range g.needed {
		if g.canStart(x) {
			out = append(out, x.Pkg)
		}
	}
	return out
}

// Start: a build begins; ErrNil, ErrDown, ErrState, ErrNone, ErrMany, and that of a build that came to nothing.
func (g *Forge) Start(p api.Pkg) api.Errno {
	if g == nil {
		return api.ErrNil
	}
	if g.ribbon.Down() {
		return api.ErrDown
	}
	if g.stages == nil {
		return api.ErrState
	}
	x, ok := g.find(p, g.canStart)
	if !ok {
		return api.ErrNone
	}
	if g.full() {
		return api.ErrMany
	}
	prog, seen, e := g.build(x.Choice)
	if e != api.OK {
		return g.fail(p, e)
	}
	return g.sched.Start(p, prog, seen)
}

// full answers whether as many builds as may be are under way.
func (g *Forge) full() bool {
	count := 0
	for range g.Running() {
		count++
	}
	return count >= api.MaxRuns
}

// build answers the program of a choice's tool, and what it sees; ErrCode, layer 11's Build's errors.
func (g *Forge) build(c api.Choice) ([]api.Ins, api.Tree, api.Errno) {
	tool, _ := g.Object(c.Tool)
	data, _ := tree.Get(tool, toolFile)
	prog, e := code.Decode(data)
	if e != api.OK {
		return nil, api.Tree{}, api.ErrCode
	}
	var mounts []api.Mount
	for _, p := range c.With {
		t, _ := g.Object(p)
		mounts = append(mounts, api.Mount{Dir: inputs + p.Name, Tree: t})
	}
	seen, e := view.Build(mounts)
	if e != api.OK {
		return nil, api.Tree{}, e
	}
	return prog, seen, api.OK
}

// fail tells that a package's build came to nothing; the answer is the error of telling, or why.
func (g *Forge) fail(p api.Pkg, why api.Errno) api.Errno {
	if e := g.tell(event{word: wordFail, pkg: p, text: strconv.Itoa(int(why))}); e != api.OK {
		return e
	}
	return why
}

// Step: a build does so many steps at most; how many it did, and whether it is done; ErrNil, ErrDown, ErrNone, and that of a build that came to nothing.
func (g *Forge) Step(p api.Pkg, most int) (int, bool, api.Errno) {
	if g == nil {
		return 0, false, api.ErrNil
	}
	if g.ribbon.Down() {
		return 0, false, api.ErrDown
	}
	did, done, e := g.sched.Step(p, most)
	if e != api.OK || !done {
		return did, done, e
	}
	out, why, _ := g.sched.Take(p)
	return did, true, g.end(p, out, why)
}

// end tells what came of a build: what it wrote, or why it gave up.
func (g *Forge) end(p api.Pkg, out api.Tree, why api.Errno) api.Errno {
	v := event{word: wordDone, pkg: p}
	if why == api.OK {
		v.text, why = tree.Encode(out)
	}
	if why == api.OK {
		_, why = v.encode()
	}
	if why == api.OK {
		why = g.store.Try(v.text)
	}
	if why != api.OK {
		return g.fail(p, why)
	}
	return g.tell(v)
}

// Check: a package is built once more, and held against what is there; ErrNil, ErrNone, ErrClash.
func (g *Forge) Check(p api.Pkg) api.Errno {
	if g == nil {
		return api.ErrNil
	}
	r, ok := g.book.Get(p)
	if !ok {
		return api.ErrNone
	}
	if !g.stock.IsSeed(p) && !g.makes(r) {
		return api.ErrClash
	}
	return api.OK
}

// makes answers whether a record's build, run once more, writes its object.
func (g *Forge) makes(r api.Record) bool {
	prog, seen, e := g.build(r.Choice)
	if e != api.OK {
		return false
	}
	out, _, e := vm.Run(prog, seen)
	if e != api.OK {
		return false
	}
	s, e := tree.Encode(out)
	there, ok := g.store.Get(r.Out)
	return e == api.OK && ok && s == there
}
