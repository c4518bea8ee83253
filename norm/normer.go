package norm

import (
	"slices"
	"strconv"

	"thunk/api"
	"thunk/chain"
)

// names are those of arguments, one after the other.
type names struct{ given int }

// next is a name that no text can bring: % is no sign of names.
func (n *names) next() string {
	n.given++
	return "%." + strconv.Itoa(n.given)
}

// normer goes through a term, and gives names on its way: one row of them for the whole term.
type normer struct{ names }

// named is an argument, and the name that stands in its place.
type named struct {
	name string
	e    api.Expr
}

// term is e, normed. What a let's last part is comes behind its values.
func (n *normer) term(e api.Expr) api.Expr {
	lets, body := chain.Lets(e)
	for i, let := range lets {
		lets[i] = n.parts(let)
	}
	return chain.Join(append(lets, n.parts(body))...)
}

// parts is e with its parts normed, those of them named that have to be. An argument's own parts get their names ahead of it.
func (n *normer) parts(e api.Expr) api.Expr {
	made := api.Expr{Kind: e.Kind, Text: e.Text, Names: append([]string(nil), e.Names...)}
	first := firstArgument(e)
	var values []named
	for i, part := range e.A {
		part = n.term(part)
		if i >= first && nameless(part) {
			values = append(values, named{n.next(), part})
			part = api.Expr{Kind: api.EVar, Text: values[len(values)-1].name}
		}
		made.A = append(made.A, part)
	}
	return within(made, values...)
}

// within is e with a let around it for each value, the first one's outermost.
func within(e api.Expr, values ...named) api.Expr {
	for _, v := range slices.Backward(values) {
		e = api.Expr{Kind: api.ELet, Names: []string{v.name}, A: []api.Expr{v.e, e}}
	}
	return e
}
