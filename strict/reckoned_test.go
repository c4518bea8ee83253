package strict_test

import (
	"strconv"
	"testing"

	"thunk/api"
	"thunk/core"
	"thunk/strict"
)

// cell is a term that is reckoned when it is asked for, or its value.
type cell struct {
	e  api.Expr
	at *place
	v  *value
}

// place is what a name stands for, with those around.
type place struct {
	name string
	c    *cell
	up   *place
}

func (p *place) cell(name string) *cell {
	for ; p != nil; p = p.up {
		if p.name == name {
			return p.c
		}
	}
	return nil
}

// value is a constant, a pair, or a function: with what it has been given.
type value struct {
	e     api.Expr
	at    *place
	cells []*cell
}

// truth is #t or #f.
func truth(is bool) *value {
	if is {
		return &value{e: api.Expr{Kind: api.EBool, Text: "#t"}}
	}
	return &value{e: api.Expr{Kind: api.EBool, Text: "#f"}}
}

// reckoner reckons terms by need: nil is what never comes to a value. Wherever there is one, it looks whether all is reckoned that Demands names.
type reckoner struct {
	t     *testing.T
	needs []strict.Need
	fuel  int
	found int // how many names were there to be looked at
}

func (r *reckoner) term(e api.Expr, at *place) *value {
	if r.fuel--; r.fuel < 0 {
		return nil
	}
	v := r.value(e, at)
	if v == nil {
		return nil
	}
	names, all := strict.Demands(e, r.needs)
	if all {
		r.t.Fatalf("P801: Demands(%s, %s) is all, but it has a value", core.Text(e), needsText(r.needs))
	}
	for _, name := range names {
		if at.cell(name).v == nil {
			r.t.Fatalf("P801: Demands(%s, %s): %s is not reckoned", core.Text(e), needsText(r.needs), name)
		}
		r.found++
	}
	return v
}

func (r *reckoner) force(c *cell) *value {
	if c.v == nil {
		c.v = r.term(c.e, c.at)
	}
	return c.v
}

// argument is a cell of e; of a name its own.
func (r *reckoner) argument(e api.Expr, at *place) *cell {
	if e.Kind == api.EVar {
		return at.cell(e.Text)
	}
	return &cell{e: e, at: at}
}

func (r *reckoner) value(e api.Expr, at *place) *value {
	switch e.Kind {
	case api.EVar:
		return r.force(at.cell(e.Text))
	case api.EApp:
		f := r.term(e.A[0], at)
		for _, x := range e.A[1:] {
			if f = r.given(f, r.argument(x, at)); f == nil {
				return nil
			}
		}
		return f
	case api.EIf:
		switch v := r.term(e.A[0], at); {
		case v == nil:
			return nil
		case v.e.Text == "#f" && v.e.Kind == api.EBool:
			return r.term(e.A[2], at)
		}
		return r.term(e.A[1], at)
	case api.ELet:
		for _, name := range e.Names {
			at = &place{name, &cell{}, at}
		}
		for i, name := range e.Names {
			*at.cell(name) = cell{e: e.A[i], at: at}
		}
		return r.term(e.A[len(e.Names)], at)
	case api.EPrim:
		return r.primitive(e, at)
	}
	return &value{e: e, at: at}
}

// given is a function that has one more: its body's value, if it has all.
func (r *reckoner) given(f *value, x *cell) *value {
	if f == nil || f.e.Kind != api.ELam {
		return nil
	}
	cells := append(append([]*cell{}, f.cells...), x)
	if len(cells) < len(f.e.Names) {
		return &value{f.e, f.at, cells}
	}
	at := f.at
	for i, name := range f.e.Names {
		at = &place{name, cells[i], at}
	}
	return r.term(f.e.A[0], at)
}

func (r *reckoner) primitive(e api.Expr, at *place) *value {
	if e.Text == "cons" {
		return &value{e, nil, []*cell{r.argument(e.A[0], at), r.argument(e.A[1], at)}}
	}
	var l []*value
	for _, part := range e.A {
		v := r.term(part, at)
		if v == nil {
			return nil
		}
		l = append(l, v)
	}
	return r.result(e.Text, l[0], l[len(l)-1])
}

func (r *reckoner) result(name string, a, b *value) *value {
	pair := a.e.Kind == api.EPrim
	x, err := strconv.Atoi(a.e.Text)
	y, err2 := strconv.Atoi(b.e.Text)
	switch {
	case name == "seq":
		return b
	case name == "not":
		return truth(a.e.Kind == api.EBool && a.e.Text == "#f")
	case name == "pair?":
		return truth(pair)
	case name == "null?":
		return truth(a.e.Kind == api.ENil)
	case name == "eq?":
		return truth(a.e.Kind == b.e.Kind && a.e.Text == b.e.Text)
	case name == "car" && pair:
		return r.force(a.cells[0])
	case name == "+" && err == nil && err2 == nil:
		return &value{e: integer(strconv.Itoa(x + y))}
	case name == "<" && err == nil && err2 == nil:
		return truth(x < y)
	}
	return nil
}

// TestReckoned: what is demanded has been reckoned wherever there is a value, as the rules tell and as the term is reckoned.
func TestReckoned(t *testing.T) {
	m, found := newMaker(7, true), 0
	for range 30000 {
		m.clear()
		e := m.term(3 + m.Intn(5))
		r := reckoner{t, strict.Needs(e), 300, 0}
		var at *place
		for _, name := range core.Free(e) {
			value := []api.Expr{integer("1"), {Kind: api.ENil}, prim("error", integer("2")), lambda(prim("+", variable("a"), integer("1")), "a"), integer("5")}[m.Intn(5)]
			at = &place{name, &cell{e: value}, at}
		}
		r.term(e, at)
		found += r.found
	}
	if found < 20000 {
		t.Errorf("only %d names were looked at", found)
	}
}
