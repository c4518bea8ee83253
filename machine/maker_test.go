package machine_test

import (
	"math/rand"
	"slices"
	"strconv"
	"strings"

	"thunk/api"
)

// Kinds of values that a term is made for.
const (
	forNumber = iota
	forTruth
	forList
	forFunction
	forAny
)

// named is a name, and for which kind of values it stands, mostly.
type named struct {
	name string
	kind int
}

// maker makes right terms, nothing free in them but input. Most are made for a kind of values, so that many come to something; some are not.
type maker struct {
	*rand.Rand
	apart bool // each name is bound once
	bound *int
}

func newMaker(seed int64, apart bool) maker {
	return maker{rand.New(rand.NewSource(seed)), apart, new(int)}
}

func (m maker) pick(texts ...string) string { return texts[m.Intn(len(texts))] }

// names are n that are bound.
func (m maker) names(n int) (l []named) {
	for len(l) < n {
		x := named{m.pick("x", "y", "f", "g", "input"), max(m.Intn(forAny), m.Intn(forAny))}
		if m.apart {
			*m.bound++
			x.name = m.pick("x", "f") + "." + strconv.Itoa(*m.bound)
		}
		if !slices.ContainsFunc(l, func(y named) bool { return x.name == y.name }) {
			l = append(l, x)
		}
	}
	return l
}

func texts(l []named) (names []string) {
	for _, x := range l {
		names = append(names, x.name)
	}
	return names
}

// variable is a name for that kind, if there is one; the last ones most.
func (m maker) variable(kind int, there []named) (api.Expr, bool) {
	fit := []string{}
	for _, x := range there {
		if x.kind == kind || kind == forAny {
			fit = append(fit, x.name)
		}
	}
	if len(fit) == 0 {
		return api.Expr{}, false
	}
	return variable(fit[max(m.Intn(len(fit)), m.Intn(len(fit)))]), true
}

func (m maker) constant(kind int) api.Expr {
	switch kind {
	case forNumber:
		return integer(m.pick("0", "0", "1", "2", "3", "-1", "10", "12345678901234567890", "1"+strings.Repeat("0", 120), "-"+strings.Repeat("9", 150)))
	case forTruth:
		return api.Expr{Kind: api.EBool, Text: m.pick("#t", "#f")}
	case forList:
		return api.Expr{Kind: api.ENil}
	}
	return symbol(m.pick("a", "b", "#f", "5"))
}

// term is one for that kind of values, or for any other, with so many terms around its parts at most.
func (m maker) term(kind, most int, there []named) api.Expr {
	if m.Intn(14) == 0 {
		kind = m.Intn(forAny + 1)
	}
	if e, is := m.variable(kind, there); is && (m.Intn(3) == 0 || most <= 0 && m.Intn(2) == 0) {
		return e
	}
	if most <= 0 {
		return m.constant(kind)
	}
	most--
	switch m.Intn(9) {
	case 0:
		return api.Expr{Kind: api.EIf, A: []api.Expr{m.term(forTruth, most, there), m.term(kind, most, there), m.term(kind, most, there)}}
	case 1, 2:
		return m.let(kind, most, there)
	case 3, 4:
		return m.call(most, there)
	case 5:
		return prim("seq", m.term(forAny, most, there), m.term(kind, most, there))
	case 6:
		return prim(m.pick("car", "car", "cdr"), m.term(forList, most, there))
	}
	return m.plain(kind, most, there)
}

// plain is a term that makes a value of that kind.
func (m maker) plain(kind, most int, there []named) api.Expr {
	switch kind {
	case forNumber:
		return prim(m.pick("+", "-", "*", "*", "quotient", "remainder"), m.term(kind, most, there), m.term(kind, most, there))
	case forTruth:
		switch m.Intn(3) {
		case 0:
			return prim(m.pick("<", "="), m.term(forNumber, most, there), m.term(forNumber, most, there))
		case 1:
			return prim("eq?", m.term(forAny, most, there), m.term(forAny, most, there))
		}
		return prim(m.pick("null?", "pair?", "not", "integer?", "symbol?"), m.term(forAny, most, there))
	case forList:
		return prim("cons", m.term(forAny, most, there), m.term(forList, most, there))
	case forFunction:
		return m.lambda(m.Intn(forAny), 1+m.Intn(3), most, there)
	}
	if m.Intn(12) == 0 {
		return prim("error", m.term(forAny, most, there))
	}
	return m.term(m.Intn(forAny), most, there)
}

func (m maker) lambda(kind, takes, most int, there []named) api.Expr {
	l := m.names(takes)
	return lambda(m.term(kind, most, slices.Concat(there, l)), texts(l)...)
}

func (m maker) let(kind, most int, there []named) api.Expr {
	l := m.names(1 + m.Intn(3))
	there = slices.Concat(there, l)
	e := api.Expr{Kind: api.ELet, Names: texts(l)}
	for _, x := range l {
		if m.Intn(3) == 0 {
			e.A = append(e.A, m.term(x.kind, most, there))
		} else {
			e.A = append(e.A, m.plain(x.kind, most, there))
		}
	}
	e.A = append(e.A, m.term(kind, most, there))
	return e
}

func (m maker) call(most int, there []named) api.Expr {
	parts := []api.Expr{m.term(forFunction, most, there)}
	for range 1 + m.Intn(3) {
		parts = append(parts, m.term(m.Intn(forAny), most, there))
	}
	return app(parts...)
}

// whole is one term, as much as there is fuel for it.
func (m maker) whole() api.Expr {
	*m.bound = 0
	return m.term(m.Intn(forAny+1), 2+m.Intn(6), []named{{"input", forList}})
}

// input is what is read, none or more.
func (m maker) input() (l []string) {
	for range m.Intn(4) {
		l = append(l, m.constant(forNumber).Text)
	}
	return l
}
