package machine

import (
	"strconv"

	"thunk/api"
	"thunk/chain"
)

// namer gives each name that a program binds a new one, a number, so that no two are one: what stands for it is found by its name alone then, and chapter 8 may be asked of the whole.
type namer struct {
	count int
	bound map[string][]int // of each name as it was: the numbers of those that are bound, the innermost last
}

// namedApart is p with a name of its own for each thing. What is read alone keeps its name, where nothing else has it.
func namedApart(p api.Prog) (made api.Prog) {
	n := namer{bound: map[string][]int{}}
	var names []string
	for _, sup := range p.Sups {
		names = append(names, sup.Name)
	}
	names = n.bind(names...)
	for i, sup := range p.Sups {
		params := n.bind(sup.Params...)
		made.Sups = append(made.Sups, api.Sup{Name: names[i], Params: params, Body: n.term(sup.Body)})
		n.release(sup.Params...)
	}
	made.Main = n.term(p.Main)
	return made
}

func (n *namer) bind(names ...string) (l []string) {
	for _, name := range names {
		n.count++
		n.bound[name] = append(n.bound[name], n.count)
		l = append(l, strconv.Itoa(n.count))
	}
	return l
}

func (n *namer) release(names ...string) {
	for _, name := range names {
		n.bound[name] = n.bound[name][:len(n.bound[name])-1]
	}
}

func (n *namer) name(name string) string {
	if l := n.bound[name]; len(l) > 0 {
		return strconv.Itoa(l[len(l)-1])
	}
	return name
}

func (n *namer) term(e api.Expr) api.Expr {
	lets, body := chain.Lets(e)
	var bound []string
	for i, let := range lets {
		bound = append(bound, let.Names...)
		lets[i] = n.parts(let)
	}
	made := chain.Join(append(lets, n.parts(body))...)
	n.release(bound...)
	return made
}

// parts is e with new names in its parts. What a let binds is bound from then on.
func (n *namer) parts(e api.Expr) api.Expr {
	made := api.Expr{Kind: e.Kind, Text: e.Text, Names: n.bind(e.Names...)}
	if e.Kind == api.EVar {
		made.Text = n.name(e.Text)
	}
	for _, part := range e.A {
		made.A = append(made.A, n.term(part))
	}
	return made
}
