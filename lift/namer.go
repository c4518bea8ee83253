package lift

import (
	"strconv"

	"thunk/api"
	"thunk/chain"
)

// isFunction tells whether the part i of e is a function that a let gives a name.
func isFunction(e api.Expr, i int) bool {
	return e.Kind == api.ELet && i < len(e.Names) && i < len(e.A) && e.A[i].Kind == api.ELam
}

func variable(name string) api.Expr {
	return api.Expr{Kind: api.EVar, Text: name}
}

// namer gives names to functions that have none, one after the other.
type namer struct{ given int }

func (n *namer) next() string {
	n.given++
	return "%l." + strconv.Itoa(n.given)
}

// term is e with a let around each function that has no name.
func (n *namer) term(e api.Expr) api.Expr {
	lets, body := chain.Lets(e)
	for i, let := range lets {
		lets[i] = n.within(let)
	}
	return chain.Join(append(lets, n.other(body))...)
}

// other is e likewise, which is no let. A function gets its name ahead of those within it.
func (n *namer) other(e api.Expr) api.Expr {
	if e.Kind != api.ELam {
		return n.within(e)
	}
	name := n.next()
	return api.Expr{Kind: api.ELet, Names: []string{name}, A: []api.Expr{n.within(e), variable(name)}}
}

// within is e itself as it is, its parts with such lets.
func (n *namer) within(e api.Expr) api.Expr {
	made := api.Expr{Kind: e.Kind, Text: e.Text, Names: e.Names}
	for i, part := range e.A {
		if isFunction(e, i) {
			part = n.within(part)
		} else {
			part = n.term(part)
		}
		made.A = append(made.A, part)
	}
	return made
}
