package expand

import (
	"thunk/api"
	"thunk/core"
)

const maxDeep = 300 // a term is within fewer others

// term is d's term at p.
func (x *expander) term(p place, d api.Datum) (api.Expr, error) {
	if p.deep >= maxDeep {
		return api.Expr{}, p.fail(d, api.ErrDeep)
	}
	switch d.Kind {
	case api.DInt:
		return api.Expr{Kind: api.EInt, Text: d.Text}, nil
	case api.DBool:
		return api.Expr{Kind: api.EBool, Text: d.Text}, nil
	case api.DSym:
		return x.name(p, d)
	}
	return x.list(p, d)
}

// terms are those of l at p, in order.
func (x *expander) terms(p place, l ...api.Datum) ([]api.Expr, error) {
	made := make([]api.Expr, 0, len(l))
	for _, d := range l {
		e, err := x.term(p, d)
		if err != nil {
			return nil, err
		}
		made = append(made, e)
	}
	return made, nil
}

// name is the term of an identifier alone.
func (x *expander) name(p place, d api.Datum) (api.Expr, error) {
	switch m := x.meaning(p.scope, d); m.kind {
	case variable:
		return api.Expr{Kind: api.EVar, Text: m.text}, nil
	case primitive:
		return x.wrapped(m.text), nil
	case word, macro:
		return api.Expr{}, p.fail(d, api.ErrForm)
	}
	return api.Expr{}, p.fail(d, api.ErrName)
}

// wrapped is the function that a primitive alone is.
func (x *expander) wrapped(prim string) api.Expr {
	body := api.Expr{Kind: api.EPrim, Text: prim}
	e := api.Expr{Kind: api.ELam}
	for range core.Arity(prim) {
		name := x.fresh("a")
		e.Names = append(e.Names, name)
		body.A = append(body.A, api.Expr{Kind: api.EVar, Text: name})
	}
	e.A = []api.Expr{body}
	return e
}

// list is a list's term, by what the list begins with.
func (x *expander) list(p place, d api.Datum) (api.Expr, error) {
	if len(d.L) > 0 && d.L[0].Kind == api.DSym {
		switch m := x.meaning(p.scope, d.L[0]); m.kind {
		case word:
			return x.form(p.under(), m.text, d)
		case macro:
			return x.expanded(p, m.syntax, d)
		case primitive:
			if core.Arity(m.text) == len(d.L)-1 {
				parts, err := x.terms(p.under(), d.L[1:]...)
				return api.Expr{Kind: api.EPrim, Text: m.text, A: parts}, err
			}
		}
	}
	if len(d.L) < 2 {
		return api.Expr{}, p.fail(d, api.ErrForm)
	}
	parts, err := x.terms(p.under(), d.L...)
	return api.Expr{Kind: api.EApp, A: parts}, err
}
