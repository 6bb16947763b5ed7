package recipe

import (
	"slices"

	"sapling/api"
	"sapling/quote"
)

// Print: a recipe's text; ErrArg, ErrLong.
func Print(x api.Source) (s string, e api.Errno) {
	if !printable(x) {
		return "", api.ErrArg
	}
	defer func() {
		switch r := recover().(type) {
		case nil:
		case fault:
			s, e = "", r.why
		default:
			panic(r)
		}
	}()
	var w writer
	w.source(x)
	return string(w.out), api.OK
}

// printable answers whether a recipe's parts can be.
func printable(x api.Source) bool {
	if len(x.Fields) > api.MaxFields || !Good(x.Name) || !Good(x.Version) {
		return false
	}
	return !slices.ContainsFunc(x.Fields, func(f api.Field) bool {
		return fieldWord(f.Kind) == "" || !Good(f.Name) || !Good(f.Range)
	})
}

// writer has what is written; it gives up as soon as that is too long.
type writer struct{ out []byte }

func (w *writer) put(s string) {
	if len(w.out)+len(s) > api.MaxSource {
		panic(fault{why: api.ErrLong})
	}
	w.out = append(w.out, s...)
}

func (w *writer) source(x api.Source) {
	w.put("package ")
	w.expr(x.Name)
	w.put("\nversion ")
	w.expr(x.Version)
	w.put("\n")
	for _, f := range x.Fields {
		w.put(fieldWord(f.Kind) + " ")
		w.expr(f.Name)
		w.put(" ")
		w.expr(f.Range)
		w.put("\n")
	}
}

func (w *writer) expr(x api.Expr) {
	switch x.Kind {
	case api.ExText:
		w.text(x.S)
	case api.ExName:
		w.put(x.S)
	case api.ExCat:
		w.kid(x.Kids[0])
		for _, k := range x.Kids[1:] {
			w.put(" + ")
			w.kid(k)
		}
	case api.ExIf:
		w.put("if ")
		w.expr(x.Kids[0])
		w.put(" = ")
		w.expr(x.Kids[1])
		w.put(" then ")
		w.expr(x.Kids[2])
		w.put(" else ")
		w.expr(x.Kids[3])
	case api.ExLet:
		w.put("let " + x.S + " = ")
		w.expr(x.Kids[0])
		w.put(" in ")
		w.expr(x.Kids[1])
	}
}

// kid writes a part of a sum.
func (w *writer) kid(x api.Expr) {
	if x.Kind == api.ExText || x.Kind == api.ExName {
		w.expr(x)
		return
	}
	w.put("(")
	w.expr(x)
	w.put(")")
}

func (w *writer) text(s string) {
	// A text that is too long as it is isn't written out at all.
	if len(s) > api.MaxSource {
		panic(fault{why: api.ErrLong})
	}
	w.put(quote.Text(s))
}
