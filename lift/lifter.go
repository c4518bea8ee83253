package lift

import (
	"maps"
	"slices"

	"thunk/api"
)

// lifter makes terms without functions in them.
type lifter struct {
	table
	extras [][]string // of each function what it must be handed, in rising order of bytes
}

func newLifter(t table) lifter {
	l := lifter{table: t}
	for _, f := range t.functions {
		l.extras = append(l.extras, slices.Sorted(maps.Keys(f.needs)))
	}
	return l
}

// program is all functions, and what is left of e without them.
func (l lifter) program(e api.Expr) (p api.Prog) {
	for i, f := range l.functions {
		params := slices.Concat(l.extras[i], f.lambda.Names)
		p.Sups = append(p.Sups, api.Sup{Name: f.name, Params: params, Body: l.body(f.lambda.A...)})
	}
	p.Main = l.term(e)
	return p
}

// body is the last of these; of what is no right term there may be none.
func (l lifter) body(parts ...api.Expr) api.Expr {
	if len(parts) == 0 {
		return api.Expr{}
	}
	return l.term(parts[len(parts)-1])
}

func (l lifter) term(e api.Expr) api.Expr {
	switch e.Kind {
	case api.EVar:
		return l.name(e)
	case api.EApp:
		return l.call(e)
	case api.ELet:
		return l.let(e)
	}
	return api.Expr{Kind: e.Kind, Text: e.Text, Names: e.Names, A: l.terms(e.A...)}
}

func (l lifter) terms(parts ...api.Expr) (made []api.Expr) {
	for _, part := range parts {
		made = append(made, l.term(part))
	}
	return made
}

// name hands a function what it must be handed.
func (l lifter) name(e api.Expr) api.Expr {
	number, is := l.numbers[e.Text]
	if !is || len(l.extras[number]) == 0 {
		return e
	}
	made := api.Expr{Kind: api.EApp, A: []api.Expr{e}}
	for _, extra := range l.extras[number] {
		made.A = append(made.A, variable(extra))
	}
	return made
}

// call is one with what a function must be handed, where that is called by its name.
func (l lifter) call(e api.Expr) api.Expr {
	parts := l.terms(e.A...)
	if len(e.A) > 0 && e.A[0].Kind == api.EVar && parts[0].Kind == api.EApp {
		parts = slices.Concat(parts[0].A, parts[1:])
	}
	return api.Expr{Kind: api.EApp, A: parts}
}

// let is what is left of a let without its functions.
func (l lifter) let(e api.Expr) api.Expr {
	made := api.Expr{Kind: api.ELet}
	for i, part := range e.A {
		if isFunction(e, i) {
			continue
		}
		if i < len(e.Names) {
			made.Names = append(made.Names, e.Names[i])
		}
		made.A = append(made.A, l.term(part))
	}
	if len(made.Names) == 0 && len(made.A) > 0 {
		return made.A[len(made.A)-1]
	}
	return made
}
