package expand

import (
	"thunk/api"
)

// let is the names, their values (or rules), and the body of a form that binds.
type let struct {
	ids, values []api.Datum
	body        api.Datum
}

// letOf takes d apart; false, if it is no (word ((x v) ..) e).
func letOf(d api.Datum) (let, bool) {
	if len(d.L) != 3 || d.L[1].Kind != api.DList || len(d.L[1].L) == 0 {
		return let{}, false
	}
	l := let{body: d.L[2]}
	for _, pair := range d.L[1].L {
		if pair.Kind != api.DList || len(pair.L) != 2 || !symbols(pair.L[0]) {
			return let{}, false
		}
		l.ids, l.values = append(l.ids, pair.L[0]), append(l.values, pair.L[1])
	}
	return l, true
}

// bound is the term of a form that binds. Those without rec have their values, or rules, made where the whole stands.
func (x *expander) bound(p place, word string, l let) (api.Expr, error) {
	switch word {
	case "let":
		return x.let(p, l)
	case "letrec":
		return x.letrec(p.inner(), l)
	case "let-syntax":
		return x.letSyntax(p.inner(), p.scope, l)
	}
	p = p.inner()
	return x.letSyntax(p, p.scope, l)
}

func (x *expander) let(p place, l let) (api.Expr, error) {
	parts, err := x.terms(p, l.values...)
	if err != nil {
		return api.Expr{}, err
	}
	p = p.inner()
	names, err := x.bind(p, l.ids...)
	if err != nil {
		return api.Expr{}, err
	}
	body, err := x.term(p, l.body)
	return api.Expr{Kind: api.ELet, Names: names, A: append(parts, body)}, err
}

func (x *expander) letrec(p place, l let) (api.Expr, error) {
	names, err := x.bind(p, l.ids...)
	if err != nil {
		return api.Expr{}, err
	}
	parts, err := x.terms(p, append(l.values, l.body)...)
	return api.Expr{Kind: api.ELet, Names: names, A: parts}, err
}

// letSyntax is the body's term alone, the names bound to rules that are made in that scope.
func (x *expander) letSyntax(p place, made *scope, l let) (api.Expr, error) {
	bound, err := bindRules(p, made, l.ids...)
	if err != nil {
		return api.Expr{}, err
	}
	for i, s := range bound {
		if err := s.take(p, l.values[i]); err != nil {
			return api.Expr{}, err
		}
	}
	return x.term(p, l.body)
}
