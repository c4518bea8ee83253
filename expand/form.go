package expand

import (
	"thunk/api"
	"thunk/datum"
)

const maxQuoted = 300 // as great a Size as what is quoted may have

// form is the term of a list that begins with a word; p is the place of what stands within.
func (x *expander) form(p place, word string, d api.Datum) (api.Expr, error) {
	switch word {
	case "quote":
		if len(d.L) == 2 {
			return quote(p, d)
		}
	case "lambda":
		if len(d.L) == 3 && d.L[1].Kind == api.DList {
			return x.function(p, d, d.L[2], d.L[1].L...)
		}
	case "if":
		if len(d.L) == 4 {
			parts, err := x.terms(p, d.L[1:]...)
			return api.Expr{Kind: api.EIf, A: parts}, err
		}
	case "let", "letrec", "let-syntax", "letrec-syntax":
		if l, is := letOf(d); is {
			return x.bound(p, word, l)
		}
	}
	return api.Expr{}, p.fail(d, api.ErrForm)
}

func quote(p place, d api.Datum) (api.Expr, error) {
	if datum.Size(d.L[1]) > maxQuoted {
		return api.Expr{}, p.fail(d, api.ErrDeep)
	}
	return quoted(d.L[1]), nil
}

// quoted is the term that a datum is the value of.
func quoted(d api.Datum) api.Expr {
	switch d.Kind {
	case api.DInt:
		return api.Expr{Kind: api.EInt, Text: d.Text}
	case api.DBool:
		return api.Expr{Kind: api.EBool, Text: d.Text}
	case api.DSym:
		return api.Expr{Kind: api.ESym, Text: d.Text}
	}
	e := api.Expr{Kind: api.ENil}
	for i := len(d.L) - 1; i >= 0; i-- {
		e = api.Expr{Kind: api.EPrim, Text: "cons", A: []api.Expr{quoted(d.L[i]), e}}
	}
	return e
}

// function is the term of a lambda, or of a definition that is one; the whole is d.
func (x *expander) function(p place, d, body api.Datum, params ...api.Datum) (api.Expr, error) {
	if len(params) == 0 || !symbols(params...) {
		return api.Expr{}, p.fail(d, api.ErrForm)
	}
	p = p.inner()
	names, err := x.bind(p, params...)
	if err != nil {
		return api.Expr{}, err
	}
	parts, err := x.terms(p, body)
	return api.Expr{Kind: api.ELam, Names: names, A: parts}, err
}
