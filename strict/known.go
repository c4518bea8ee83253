package strict

import (
	"slices"

	"thunk/api"
	"thunk/chain"
)

// known is of functions, by their names, which of their parameters they must have.
type known map[string][]bool

// learn keeps what was known of that name first.
func (k known) learn(need Need) {
	if _, is := k[need.Name]; !is {
		k[need.Name] = need.Of
	}
}

// demand is what these demand together.
func (k known) demand(l ...api.Expr) demand {
	var d demand
	for _, e := range l {
		d = together(d, k.demandOf(e))
	}
	return d
}

// demandOf is what e demands. What is a value already, or is made of what need not be reckoned, demands nothing.
func (k known) demandOf(e api.Expr) demand {
	switch e.Kind {
	case api.EVar:
		return demand{names: setOf(e.Text)}
	case api.EPrim:
		return k.primitive(e)
	case api.EIf:
		return k.choice(e)
	case api.EApp:
		return k.call(e)
	case api.ELet:
		return k.lets(e)
	}
	return demand{}
}

// partOf is a part of e; of what is no right term it may be missing.
func partOf(e api.Expr, i int) api.Expr {
	if i < len(e.A) {
		return e.A[i]
	}
	return api.Expr{}
}

func (k known) primitive(e api.Expr) demand {
	switch e.Text {
	case "cons":
		return demand{}
	case "error":
		return demand{all: true}
	}
	return k.demand(e.A...)
}

func (k known) choice(e api.Expr) demand {
	first, second := k.demandOf(partOf(e, 1)), k.demandOf(partOf(e, 2))
	return together(k.demandOf(partOf(e, 0)), both(first, second))
}

// call is what a function demands that is called, with those of its arguments that it must have. One that has too few does not begin yet.
func (k known) call(e api.Expr) demand {
	f := partOf(e, 0)
	asked := []api.Expr{f}
	if f.Kind == api.EVar && len(k[f.Text]) < len(e.A) {
		for i, must := range k[f.Text] {
			if must {
				asked = append(asked, e.A[i+1])
			}
		}
	}
	return k.demand(asked...)
}

// asked is what a let demands, as far as that is known: which of its values are asked for shows on the way.
type asked struct {
	demand
	values map[string]api.Expr // those that nothing has asked for
	next   []api.Expr          // those that are asked for, and were not gone through
}

// take puts in what the let's body, or a value that is asked for, demands.
func (a *asked) take(d demand) {
	for _, name := range shared(d.names, a.values) {
		a.next = append(a.next, a.values[name])
		delete(a.values, name)
	}
	a.demand = together(a.demand, d)
}

// lets is what the lets that e begins with demand, from the innermost out. Of what is no right term e may be none of these.
func (k known) lets(e api.Expr) demand {
	lets, body := chain.Lets(e)
	if len(lets) == 0 {
		lets, body = []api.Expr{e}, partOf(e, len(e.Names))
	}
	d := k.demandOf(body)
	for _, let := range slices.Backward(lets) {
		d = k.let(let, d)
	}
	return d
}

// let is what a let demands whose last part demands d.
func (k known) let(e api.Expr, d demand) demand {
	a := asked{values: make(map[string]api.Expr, len(e.Names))}
	for i, name := range e.Names {
		a.values[name] = partOf(e, i)
	}
	a.take(d)
	for len(a.next) > 0 {
		value := a.next[len(a.next)-1]
		a.next = a.next[:len(a.next)-1]
		a.take(k.demandOf(value))
	}
	a.drop(e.Names...)
	return a.demand
}
