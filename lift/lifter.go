package lift

import (
	"maps"
	"slices"

	"thunk/api"
	"thunk/chain"
)

// lifter makes terms without functions in them.
type lifter struct {
	table
	extras [][]string // of each function what it must be handed, in rising order of bytes
}

func newLifter(t table) lifter {
	l := lifter{table: t}
	for _, f := range t.functions {
		l.extras = append(l.extras, slices.Sorted(maps.Keys(f.needs)))
	}
	return l
}

// program is all functions, and what is left of e without them.
func (l lifter) program(e api.Expr) (p api.Prog) {
	for i, f := range l.functions {
		params := slices.Concat(l.extras[i], f.lambda.Names)
		p.Sups = append(p.Sups, api.Sup{Name: f.name, Params: params, Body: l.body(f.lambda.A...)})
	}
	p.Main = l.term(e)
	return p
}

// body is the last of these; of what is no right term there may be none.
func (l lifter) body(parts ...api.Expr) api.Expr {
	if len(parts) == 0 {
		return api.Expr{}
	}
	return l.term(parts[len(parts)-1])
}

// term is e without functions. Of a let that had nothing else nothing is left but its last part.
func (l lifter) term(e api.Expr) api.Expr {
	lets, body := chain.Lets(e)
	var made []api.Expr
	for _, let := range lets {
		if let = l.let(let); len(let.Names) > 0 {
			made = append(made, let)
		}
	}
	return chain.Join(append(made, l.other(body))...)
}

func (l lifter) other(e api.Expr) api.Expr {
	switch e.Kind {
	case api.EVar:
		return l.name(e)
	case api.EApp:
		return l.call(e)
	}
	return api.Expr{Kind: e.Kind, Text: e.Text, Names: e.Names, A: l.terms(e.A...)}
}

func (l lifter) terms(parts ...api.Expr) (made []api.Expr) {
	for _, part := range parts {
		made = append(made, l.term(part))
	}
	return made
}

// name hands a function what it must be handed.
func (l lifter) name(e api.Expr) api.Expr {
	number, is := l.numbers[e.Text]
	if !is || len(l.extras[number]) == 0 {
		return e
	}
	made := api.Expr{Kind: api.EApp, A: []api.Expr{e}}
	for _, extra := range l.extras[number] {
		made.A = append(made.A, variable(extra))
	}
	return made
}

// call is one with what a function must be handed, where that is called by its name.
func (l lifter) call(e api.Expr) api.Expr {
	parts := l.terms(e.A...)
	if len(e.A) > 0 && e.A[0].Kind == api.EVar && parts[0].Kind == api.EApp {
		parts = slices.Concat(parts[0].A, parts[1:])
	}
	return api.Expr{Kind: api.EApp, A: parts}
}

// let is what is left of a let's names and values without its functions.
func (l lifter) let(e api.Expr) api.Expr {
	made := api.Expr{Kind: api.ELet}
	for i, value := range e.A {
		if !isFunction(e, i) {
			made.Names, made.A = append(made.Names, e.Names[i]), append(made.A, l.term(value))
		}
	}
	return made
}
