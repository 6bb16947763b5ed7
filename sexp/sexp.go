// Package sexp is layer 1: atoms and lists as bytes. See shared/doc/01-sexp.md.
package sexp

import (
	"iter"
	"strconv"
	"strings"

	"sapling/api"
	"sapling/digits"
)

// Atom: an atom with that text.
func Atom(s string) api.Node { return api.Node{Leaf: true, Atom: s} }

// List: a list of nodes.
func List(kids ...api.Node) api.Node { return api.Node{List: copies(kids)} }

// copies answers the same nodes in new memory, all the way down.
func copies(list []api.Node) []api.Node {
	if len(list) == 0 {
		return nil
	}
	out := make([]api.Node, len(list))
	for i, n := range list {
		out[i] = api.Node{Leaf: n.Leaf, Atom: n.Atom, List: copies(n.List)}
	}
	return out
}

// Encode: a node's bytes; ErrArg, ErrDeep, ErrLong.
func Encode(n api.Node) (string, api.Errno) {
	var w writer
	if e := w.node(n, 0); e != api.OK {
		return "", e
	}
	return string(w.out), api.OK
}

// writer has the pieces that are written.
type writer struct{ out []byte }

// piece writes one piece, unless all would be too long with it.
func (w *writer) piece(parts ...string) api.Errno {
	size := len(w.out)
	for _, p := range parts {
		size += len(p)
	}
	if size > api.MaxBytes {
		return api.ErrLong
	}
	for _, p := range parts {
		w.out = append(w.out, p...)
	}
	return api.OK
}

// node writes a node that stands within so many lists.
func (w *writer) node(n api.Node, within int) api.Errno {
	if n.Leaf && len(n.List) > 0 || !n.Leaf && n.Atom != "" {
		return api.ErrArg
	}
	if n.Leaf {
		return w.piece(strconv.Itoa(len(n.Atom)), ":", n.Atom)
	}
	if within >= api.MaxDeep {
		return api.ErrDeep
	}
	return w.list(n.List, within)
}

func (w *writer) list(kids []api.Node, within int) api.Errno {
	if e := w.piece("("); e != api.OK {
		return e
	}
	for _, k := range kids {
		if e := w.node(k, within+1); e != api.OK {
			return e
		}
	}
	return w.piece(")")
}

// Decode: the node that bytes are; ErrLong, ErrForm, ErrDeep.
func Decode(s string) (api.Node, api.Errno) {
	if len(s) > api.MaxBytes {
		return api.Node{}, api.ErrLong
	}
	r := reader{rest: s}
	n, e := r.node(0)
	if e == api.OK && r.rest != "" {
		e = api.ErrForm
	}
	if e != api.OK {
		return api.Node{}, e
	}
	return n, api.OK
}

// reader has the bytes that aren't read yet.
type reader struct{ rest string }

// node reads a node that stands within so many lists.
func (r *reader) node(within int) (api.Node, api.Errno) {
	if strings.HasPrefix(r.rest, "(") {
		return r.list(within)
	}
	return r.atom()
}

func (r *reader) list(within int) (api.Node, api.Errno) {
	if within >= api.MaxDeep {
		return api.Node{}, api.ErrDeep
	}
	r.rest = r.rest[1:]
	var kids []api.Node
	for !strings.HasPrefix(r.rest, ")") {
		k, e := r.node(within + 1)
		if e != api.OK {
			return api.Node{}, e
		}
		kids = append(kids, k)
	}
	r.rest = r.rest[1:]
	return api.Node{List: kids}, api.OK
}

func (r *reader) atom() (api.Node, api.Errno) {
	count, rest, ok := strings.Cut(r.rest, ":")
	if !ok {
		return api.Node{}, api.ErrForm
	}
	n, ok := digits.Parse(count)
	if !ok || n < 0 || n > len(rest) {
		return api.Node{}, api.ErrForm
	}
	r.rest = rest[n:]
	return Atom(rest[:n]), api.OK
}

// Leaves: all atoms, in order.
func Leaves(n api.Node) iter.Seq[string] {
	// A copy, so that what the caller writes into the node later isn't seen.
	kept := api.Node{Leaf: n.Leaf, Atom: n.Atom, List: copies(n.List)}
	return func(yield func(string) bool) {
		var down func(api.Node) bool
		down = func(n api.Node) bool {
			if n.Leaf {
				return yield(n.Atom)
			}
			for _, k := range n.List {
				if !down(k) {
					return false
				}
			}
			return true
		}
		down(kept)
	}
}
