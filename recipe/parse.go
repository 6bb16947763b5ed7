package recipe

import (
	"strings"

	"sapling/api"
	"sapling/quote"
)

// Kinds of tokens.
const (
	atEnd = iota // none is left
	aWord
	aSign
	aText
)

// token has the place of its first byte; s is its word, its sign, or what its text stands for.
type token struct {
	kind int
	s    string
	at   int
}

// reader stands at a token, which isn't taken yet.
type reader struct {
	src string
	pos int // behind the token
	tok token
}

// Parse: the recipe of a text; or the place of the first fault; ErrLong, ErrSyntax, ErrDeep, ErrMany.
func Parse(s string) (out api.Source, at int, e api.Errno) {
	if len(s) > api.MaxSource {
		return api.Source{}, 0, api.ErrLong
	}
	defer func() {
		switch r := recover().(type) {
		case nil:
		case fault:
			out, at, e = api.Source{}, r.at, r.why
		default:
			panic(r)
		}
	}()
	r := reader{src: s}
	r.take()
	return r.source(), 0, api.OK
}

// fail gives up at the token at which the reader stands.
func (r *reader) fail(why api.Errno) { panic(fault{r.tok.at, why}) }

// take goes on to the next token.
func (r *reader) take() {
	r.skip()
	rest := r.src[r.pos:]
	r.tok = token{at: r.pos}
	switch {
	case rest == "":
		return
	case wordSize(rest) > 0:
		r.tok.kind, r.tok.s = aWord, rest[:wordSize(rest)]
		r.pos += len(r.tok.s)
	case strings.ContainsRune("()+=", rune(rest[0])):
		r.tok.kind, r.tok.s = aSign, rest[:1]
		r.pos++
	default:
		text, behind, ok := quote.Cut(rest)
		if !ok {
			r.fail(api.ErrSyntax)
		}
		r.tok.kind, r.tok.s = aText, text
		r.pos = len(r.src) - len(behind)
	}
}

// skip goes on to the first byte that is neither a blank nor in a note.
func (r *reader) skip() {
	rest := strings.TrimLeft(r.src[r.pos:], " \n\t")
	for strings.HasPrefix(rest, "#") {
		_, rest, _ = strings.Cut(rest, "\n")
		rest = strings.TrimLeft(rest, " \n\t")
	}
	r.pos = len(r.src) - len(rest)
}

// is answers whether the reader stands at such a token.
func (r *reader) is(kind int, s string) bool { return r.tok.kind == kind && r.tok.s == s }

// must takes such a token.
func (r *reader) must(kind int, s string) {
	if !r.is(kind, s) {
		r.fail(api.ErrSyntax)
	}
	r.take()
}

// name takes a name.
func (r *reader) name() string {
	s := r.tok.s
	if r.tok.kind != aWord || !Name(s) {
		r.fail(api.ErrSyntax)
	}
	r.take()
	return s
}

func (r *reader) source() api.Source {
	var out api.Source
	r.must(aWord, "package")
	out.Name = r.expr(0)
	r.must(aWord, "version")
	out.Version = r.expr(0)
	for r.tok.kind != atEnd {
		kind := r.fieldKind()
		if len(out.Fields) == api.MaxFields {
			r.fail(api.ErrMany)
		}
		r.take()
		name := r.expr(0)
		out.Fields = append(out.Fields, api.Field{Kind: kind, Name: name, Range: r.expr(0)})
	}
	return out
}

// fieldKind answers the kind of the field that begins here.
func (r *reader) fieldKind() int {
	for kind := api.FdTool; kind <= api.FdRun; kind++ {
		if r.is(aWord, fieldWord(kind)) {
			return kind
		}
	}
	r.fail(api.ErrSyntax)
	return 0
}

// expr reads an expression that stands within so many terms.
func (r *reader) expr(within int) api.Expr {
	terms := []api.Expr{r.term(within)}
	for r.is(aSign, "+") {
		r.take()
		terms = append(terms, r.term(within))
	}
	if len(terms) == 1 {
		return terms[0]
	}
	return api.Expr{Kind: api.ExCat, Kids: terms}
}

// begins answers whether a term begins here.
func (r *reader) begins() bool {
	return r.tok.kind == aText || r.is(aSign, "(") || r.is(aWord, "if") || r.is(aWord, "let") || r.tok.kind == aWord && Name(r.tok.s)
}

// term reads a term that stands within so many others.
func (r *reader) term(within int) api.Expr {
	if !r.begins() {
		r.fail(api.ErrSyntax)
	}
	if within >= api.MaxDeep {
		r.fail(api.ErrDeep)
	}
	first := r.tok
	r.take()
	switch {
	case first.kind == aText:
		return api.Expr{Kind: api.ExText, S: first.s}
	case first.kind == aSign:
		x := r.expr(within + 1)
		r.must(aSign, ")")
		return x
	case first.s == "if":
		return r.choice(within + 1)
	case first.s == "let":
		return r.binding(within + 1)
	}
	return api.Expr{Kind: api.ExName, S: first.s}
}

// choice reads what follows "if".
func (r *reader) choice(within int) api.Expr {
	a := r.expr(within)
	r.must(aSign, "=")
	b := r.expr(within)
	r.must(aWord, "then")
	c := r.expr(within)
	r.must(aWord, "else")
	d := r.expr(within)
	return api.Expr{Kind: api.ExIf, Kids: []api.Expr{a, b, c, d}}
}

// binding reads what follows "let".
func (r *reader) binding(within int) api.Expr {
	name := r.name()
	r.must(aSign, "=")
	a := r.expr(within)
	r.must(aWord, "in")
	b := r.expr(within)
	return api.Expr{Kind: api.ExLet, S: name, Kids: []api.Expr{a, b}}
}
