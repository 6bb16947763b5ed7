package eval

import (
	"slices"

	"sapling/api"
	"sapling/path"
	"sapling/span"
	"sapling/version"
)

// fault is what a recipe's reading panics with to give up.
type fault struct{ why api.Errno }

// must gives up with an error.
func must(e api.Errno) {
	if e != api.OK {
		panic(fault{e})
	}
}

// Recipe: what a recipe means; ErrMany, and what is met on the way.
func Recipe(x api.Source) (out api.Recipe, e api.Errno) {
	defer func() {
		switch r := recover().(type) {
		case nil:
		case fault:
			out, e = api.Recipe{}, r.why
		default:
			panic(r)
		}
	}()
	if len(x.Fields) > api.MaxFields {
		must(api.ErrMany)
	}
	name := nameOf(x.Name)
	v, e := version.Parse(textOf(x.Version))
	must(e)
	out.Pkg = api.Pkg{Name: name, Version: v}
	tools := fields(&out, x.Fields)
	if tools == 0 {
		must(api.ErrNone)
	}
	return out, api.OK
}

// textOf answers what an expression means.
func textOf(x api.Expr) string {
	s, _, e := Eval(x)
	must(e)
	return s
}

// nameOf answers the name that an expression means.
func nameOf(x api.Expr) string {
	s := textOf(x)
	if !path.Name(s) {
		must(api.ErrName)
	}
	return s
}

// fields adds what all fields mean to a recipe, and answers how many tools they tell.
func fields(out *api.Recipe, list []api.Field) int {
	tools := 0
	for _, f := range list {
		if f.Kind < api.FdTool || f.Kind > api.FdRun {
			must(api.ErrArg)
		}
		d := dep(f)
		switch f.Kind {
		case api.FdTool:
			if tools > 0 {
				must(api.ErrTwice)
			}
			out.Tool = d
			tools++
		case api.FdBuild:
			out.Build = added(out.Build, d)
		case api.FdRun:
			out.Run = added(out.Run, d)
		}
	}
	return tools
}

// dep answers the input that a field means.
func dep(f api.Field) api.Dep {
	name := nameOf(f.Name)
	r, e := span.Parse(textOf(f.Range))
	must(e)
	return api.Dep{Name: name, Range: r}
}

// added answers inputs with one more.
func added(list []api.Dep, d api.Dep) []api.Dep {
	if slices.ContainsFunc(list, func(x api.Dep) bool { return x.Name == d.Name }) {
		must(api.ErrTwice)
	}
	if len(list) == api.MaxDeps {
		must(api.ErrMany)
	}
	return append(list, d)
}
