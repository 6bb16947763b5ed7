package forge

import (
	"slices"

	"sapling/api"
	"sapling/digits"
	"sapling/eval"
	"sapling/plan"
	"sapling/recipe"
	"sapling/sexp"
	"sapling/stage"
	"sapling/tree"
	"sapling/version"
)

// Words of events.
const (
	wordSeed   = "seed"
	wordRecipe = "recipe"
	wordSeal   = "seal"
	wordWant   = "want"
	wordDone   = "done"
	wordFail   = "fail"
)

// event is what a record tells; pkg and text are empty where its word is followed by none.
type event struct {
	word string
	pkg  api.Pkg
	text string
}

// follows answers whether a package, and whether a text, follow a word; false at last: it is no event's.
func follows(word string) (pkg, text, known bool) {
	switch word {
	case wordSeed, wordDone, wordFail:
		return true, true, true
	case wordRecipe:
		return false, true, true
	case wordSeal:
		return false, false, true
	case wordWant:
		return true, false, true
	}
	return false, false, false
}

// encode answers an event's bytes; layer 1's ErrLong.
func (v event) encode() (string, api.Errno) {
	pkg, text, _ := follows(v.word)
	atoms := []api.Node{sexp.Atom(v.word)}
	if pkg {
		atoms = append(atoms, sexp.Atom(v.pkg.Name), sexp.Atom(version.Text(v.pkg.Version)))
	}
	if text {
		atoms = append(atoms, sexp.Atom(v.text))
	}
	return sexp.Encode(sexp.List(atoms...))
}

// decode answers the event of bytes; false: they are none's.
func decode(s string) (event, bool) {
	n, e := sexp.Decode(s)
	if e != api.OK || len(n.List) == 0 || slices.ContainsFunc(n.List, func(k api.Node) bool { return !k.Leaf }) {
		return event{}, false
	}
	v, rest := event{word: n.List[0].Atom}, n.List[1:]
	pkg, text, known := follows(v.word)
	if pkg && len(rest) >= 2 {
		number, e := version.Parse(rest[1].Atom)
		if e != api.OK {
			return event{}, false
		}
		v.pkg = api.Pkg{Name: rest[0].Atom, Version: number}
		rest, pkg = rest[2:], false
	}
	if text && len(rest) >= 1 {
		v.text = rest[0].Atom
		rest, text = rest[1:], false
	}
	return v, known && !pkg && !text && len(rest) == 0 && v.sound()
}

// sound answers whether an event's text is of its word's kind.
func (v event) sound() bool {
	switch v.word {
	case wordSeed, wordDone:
		_, e := tree.Decode(v.text)
		return e == api.OK
	case wordFail:
		n, ok := digits.Parse(v.text)
		return ok && n > 0
	}
	return true
}

// replay does the event of a record; false: it is none, or can't be done.
func (g *Forge) replay(s string) bool {
	v, ok := decode(s)
	if !ok {
		return false
	}
	do, e := g.would(v)
	if e != api.OK {
		return false
	}
	do()
	return true
}

// tell lays an event down, and does it.
func (g *Forge) tell(v event) api.Errno {
	if g.ribbon.Down() {
		return api.ErrDown
	}
	do, e := g.would(v)
	if e != api.OK {
		return e
	}
	s, e := v.encode()
	if e != api.OK {
		return e
	}
	if e := g.log.Append(s); e != api.OK {
		return e
	}
	do()
	return api.OK
}

// would answers what an event would do, or its error.
func (g *Forge) would(v event) (func(), api.Errno) {
	switch v.word {
	case wordSeed:
		return g.wouldSeed(v)
	case wordRecipe:
		return g.wouldAdd(v)
	case wordSeal:
		return g.wouldSeal()
	case wordWant:
		return g.wouldWant(v)
	case wordDone:
		return g.wouldEnd(v)
	}
	return g.wouldFail(v)
}

func (g *Forge) wouldSeed(v event) (func(), api.Errno) {
	if g.stages != nil {
		return nil, api.ErrState
	}
	next := g.stock.Copy()
	if e := next.Seed(v.pkg); e != api.OK {
		return nil, e
	}
	if e := g.store.Try(v.text); e != api.OK {
		return nil, e
	}
	return func() {
		g.stock = next
		key, _ := g.store.Put(v.text)
		g.book.Seed(v.pkg, key)
	}, api.OK
}

func (g *Forge) wouldAdd(v event) (func(), api.Errno) {
	if g.stages != nil {
		return nil, api.ErrState
	}
	source, _, e := recipe.Parse(v.text)
	if e != api.OK {
		return nil, e
	}
	x, e := eval.Recipe(source)
	if e != api.OK {
		return nil, e
	}
	next := g.stock.Copy()
	if e := next.Add(x); e != api.OK {
		return nil, e
	}
	return func() { g.stock = next }, api.OK
}

func (g *Forge) wouldSeal() (func(), api.Errno) {
	if g.stages != nil {
		return nil, api.ErrState
	}
	stages, e := stage.Fix(g.stock, api.MaxDecisions)
	if e != api.OK {
		return nil, e
	}
	return func() { g.stages = stages }, api.OK
}

func (g *Forge) wouldWant(v event) (func(), api.Errno) {
	if g.stages == nil {
		return nil, api.ErrState
	}
	if !g.stock.Has(v.pkg) {
		return nil, api.ErrNone
	}
	entries, ok := plan.Needs(g.stages, v.pkg)
	if !ok {
		return nil, api.ErrNoBootstrap
	}
	if slices.Contains(g.wants, v.pkg) {
		return nil, api.ErrTwice
	}
	return func() {
		g.wants = append(g.wants, v.pkg)
		g.need(entries)
	}, api.OK
}

func (g *Forge) wouldEnd(v event) (func(), api.Errno) {
	x, ok := g.find(v.pkg, g.canEnd)
	if !ok {
		return nil, api.ErrNone
	}
	if e := g.store.Try(v.text); e != api.OK {
		return nil, e
	}
	return func() {
		key, _ := g.store.Put(v.text)
		g.book.Add(v.pkg, key, x.Choice)
	}, api.OK
}

func (g *Forge) wouldFail(v event) (func(), api.Errno) {
	if _, ok := g.find(v.pkg, g.canEnd); !ok {
		return nil, api.ErrNone
	}
	n, _ := digits.Parse(v.text)
	return func() { g.fates[v.pkg] = api.Errno(n) }, api.OK
}
