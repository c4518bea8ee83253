package expand

import (
	"thunk/api"
	"thunk/datum"
)

// program is the term of a text: of its last datum, with all that those ahead define.
func (x *expander) program(l ...api.Datum) (api.Expr, error) {
	p := place{}.inner()
	last := len(l) - 1
	for i, d := range l {
		if isDefinition(d) == (i == last) {
			return api.Expr{}, p.fail(d, api.ErrForm)
		}
	}
	if last < 0 {
		return api.Expr{}, fault{api.ErrForm, 0}
	}
	names, err := x.define(p, l[:last]...)
	if err != nil {
		return api.Expr{}, err
	}
	parts, err := x.values(p, l[:last]...)
	if err != nil {
		return api.Expr{}, err
	}
	body, err := x.term(p, l[last])
	if len(names) == 0 {
		return body, err
	}
	return api.Expr{Kind: api.ELet, Names: names, A: append(parts, body)}, err
}

// isDefinition goes by the first part's text alone, whatever that is bound to.
func isDefinition(d api.Datum) bool {
	return d.Kind == api.DList && len(d.L) > 0 && (datum.Is(d.L[0], "define") || isRules(d))
}

// isRules tells whether a definition is one of rules.
func isRules(d api.Datum) bool {
	return datum.Is(d.L[0], "define-syntax")
}

// defined is the name that a definition defines; false, if it is none of its form.
func defined(d api.Datum) (api.Datum, bool) {
	if len(d.L) != 3 {
		return api.Datum{}, false
	}
	id := d.L[1]
	if id.Kind == api.DList && len(id.L) >= 2 && !isRules(d) {
		id = id.L[0]
	}
	return id, symbols(id)
}

// define looks at all definitions, and binds them in p's scope; it tells the names of those that are no rules. No term is made yet, so that each may speak of all.
func (x *expander) define(p place, l ...api.Datum) ([]string, error) {
	var all []string
	for _, d := range l {
		id, is := defined(d)
		if !is {
			return nil, p.fail(d, api.ErrForm)
		}
		if isRules(d) {
			if err := defineRules(p, id, d.L[2]); err != nil {
				return nil, err
			}
			continue
		}
		names, err := x.bind(p, id)
		if err != nil {
			return nil, err
		}
		all = append(all, names...)
	}
	return all, nil
}

func defineRules(p place, id, d api.Datum) error {
	bound, err := bindRules(p, p.scope, id)
	if err != nil {
		return err
	}
	return bound[0].take(p, d)
}

// values are the terms of the definitions that are no rules, in order.
func (x *expander) values(p place, l ...api.Datum) ([]api.Expr, error) {
	var made []api.Expr
	for _, d := range l {
		if isRules(d) {
			continue
		}
		e, err := x.value(p, d)
		if err != nil {
			return nil, err
		}
		made = append(made, e)
	}
	return made, nil
}

// value is the term that a definition binds its name to.
func (x *expander) value(p place, d api.Datum) (api.Expr, error) {
	if head := d.L[1]; head.Kind == api.DList {
		return x.function(p.under(), d, d.L[2], head.L[1:]...)
	}
	return x.term(p, d.L[2])
}
