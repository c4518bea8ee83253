package machine_test

import (
	"slices"

	"thunk/api"
)

// supMaker makes programs as they may be handed in, whoever made them: names are bound again and again, those of functions and of what is read, too.
type supMaker struct {
	maker
	takes map[string]int // how many the functions take
	sups  []named
}

// base is a name that something may be bound to.
func (m supMaker) base() string {
	return m.pick("x", "y", "x", "y", "z", "input", "f", "g", "%p.1")
}

// names are n that are bound, none of them one of except.
func (m supMaker) names(n int, except []named) (l []named) {
	for range n {
		x := named{m.base(), m.Intn(forAny)}
		is := func(y named) bool { return x.name == y.name }
		if !slices.ContainsFunc(l, is) && !slices.ContainsFunc(except, is) {
			l = append(l, x)
		}
	}
	if len(l) == 0 {
		return []named{{"only", forNumber}}
	}
	return l
}

// bound is what can be seen behind what is bound by the names of l.
func bound(there, l []named) []named {
	hidden := func(x named) bool {
		return slices.ContainsFunc(l, func(y named) bool { return x.name == y.name })
	}
	return append(slices.DeleteFunc(slices.Clone(there), hidden), l...)
}

func (m supMaker) atom(kind int, there []named) api.Expr {
	if e, is := m.variable(kind, there); is && m.Intn(4) > 0 {
		return e
	}
	return m.constant(kind)
}

// term is one without functions in it, whose arguments are atoms.
func (m supMaker) term(kind, most int, there []named) api.Expr {
	if m.Intn(12) == 0 {
		kind = m.Intn(forAny + 1)
	}
	if most <= 0 {
		return m.atom(kind, there)
	}
	most--
	switch m.Intn(10) {
	case 0:
		return m.atom(kind, there)
	case 1:
		return api.Expr{Kind: api.EIf, A: []api.Expr{m.term(forTruth, most, there), m.term(kind, most, there), m.term(kind, most, there)}}
	case 2, 3, 4:
		return m.let(kind, most, there)
	case 5:
		return prim("seq", m.term(forAny, most, there), m.term(kind, most, there))
	case 6:
		return prim(m.pick("car", "cdr"), m.term(forList, most, there))
	case 7:
		return m.call(most, there)
	}
	return m.plain(kind, most, there)
}

func (m supMaker) plain(kind, most int, there []named) api.Expr {
	switch kind {
	case forNumber:
		return prim(m.pick("+", "-", "*", "quotient", "remainder"), m.term(kind, most, there), m.term(kind, most, there))
	case forTruth:
		if m.Intn(2) == 0 {
			return prim(m.pick("<", "="), m.term(forNumber, most, there), m.term(forNumber, most, there))
		}
		return prim(m.pick("null?", "pair?", "not", "integer?", "symbol?"), m.term(forAny, most, there))
	case forList:
		return prim("cons", m.atom(m.Intn(forAny), there), m.atom(forList, there))
	case forFunction:
		return m.call(most, there)
	}
	if m.Intn(12) == 0 {
		return prim("error", m.term(forAny, most, there))
	}
	return prim("eq?", m.term(forAny, most, there), m.term(forAny, most, there))
}

func (m supMaker) let(kind, most int, there []named) api.Expr {
	l := m.names(1+m.Intn(3), nil)
	there = bound(there, l)
	e := api.Expr{Kind: api.ELet, Names: texts(l)}
	for _, x := range l {
		e.A = append(e.A, m.term(x.kind, most, there))
	}
	e.A = append(e.A, m.term(kind, most, there))
	return e
}

// call is mostly with as many arguments as the function takes.
func (m supMaker) call(most int, there []named) api.Expr {
	f := m.atom(forFunction, there)
	if m.Intn(3) == 0 {
		f = m.term(forFunction, most, there)
	}
	many := 1 + m.Intn(4)
	if takes := m.takes[f.Text]; takes > 0 && m.Intn(3) > 0 {
		many = takes
	}
	parts := []api.Expr{f}
	for range many {
		parts = append(parts, m.atom(m.Intn(forAny), there))
	}
	return app(parts...)
}

// body is mostly one that ends: what it is called with next is less.
func (m supMaker) body(f named, params []named, most int) api.Expr {
	there := bound(bound([]named{{"input", forList}}, m.sups), params)
	first := params[0].name
	if m.Intn(2) == 0 {
		return m.term(m.Intn(forAny+1), most, there)
	}
	next := app(variable(f.name), variable("less"))
	for _, x := range params[1:] {
		next.A = append(next.A, m.atom(x.kind, there))
	}
	end := m.term(m.Intn(forAny), most-2, there)
	again := let("less", prim("-", variable(first), integer("1")), m.around(next, there))
	return api.Expr{Kind: api.EIf, A: []api.Expr{prim("<", variable(first), integer("1")), end, again}}
}

// around is e itself, or something with it.
func (m supMaker) around(e api.Expr, there []named) api.Expr {
	switch m.Intn(4) {
	case 0:
		return let("more", e, prim("cons", m.atom(forAny, there), variable("more")))
	case 1:
		return prim("+", m.term(forNumber, 1, there), e)
	case 2:
		return let("more", e, m.term(forAny, 2, append(slices.Clone(there), named{"more", forNumber})))
	}
	return e
}

// sups is a program that is made as it is.
func sups(m maker) (p api.Prog) {
	made := supMaker{m, map[string]int{}, nil}
	if m.Intn(6) > 0 {
		made.sups = made.names(1+m.Intn(4), []named{{"%p.1", 0}})
	}
	var all [][]named
	for i, f := range made.sups {
		made.sups[i].kind = forFunction
		params := made.names(1+m.Intn(3), made.sups)
		all, made.takes[f.name] = append(all, params), len(params)
	}
	for i, f := range made.sups {
		body := made.body(f, all[i], 1+m.Intn(5))
		p.Sups = append(p.Sups, api.Sup{Name: f.name, Params: texts(all[i]), Body: body})
	}
	p.Main = made.term(m.Intn(forAny+1), 1+m.Intn(6), bound([]named{{"input", forList}}, made.sups))
	return p
}
