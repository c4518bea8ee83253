package lift

import (
	"strings"

	"thunk/api"
	"thunk/chain"
	"thunk/norm"
)

// own stands ahead of all names that a program has, while it is normed, so that those which arguments get then can be told from them.
const own = "."

func owned(name string) string {
	return own + name
}

// given is a program's own name as it was, or one that an argument got, with the p that tells it from those it may have got when the whole term was normed.
func given(name string) string {
	if before, is := strings.CutPrefix(name, own); is {
		return before
	}
	return "%p" + strings.TrimPrefix(name, "%")
}

// normed is p with a name for each argument that has to be an atom. All terms are the values of one let meanwhile, so that the row of names goes on from each to the next.
func normed(p api.Prog) api.Prog {
	row := api.Expr{Kind: api.ELet}
	for _, sup := range p.Sups {
		row.Names = append(row.Names, sup.Name)
		row.A = append(row.A, sup.Body)
	}
	row.Names = append(row.Names, "%p")
	row.A = append(row.A, p.Main, api.Expr{Kind: api.ENil})
	row = renamed(norm.Norm(renamed(row, owned)), given)
	for i := range p.Sups {
		p.Sups[i].Body = row.A[i]
	}
	p.Main = row.A[len(p.Sups)]
	return p
}

// renamed is e, other names in it.
func renamed(e api.Expr, other func(name string) string) api.Expr {
	lets, body := chain.Lets(e)
	for i, let := range lets {
		lets[i] = partsRenamed(let, other)
	}
	return chain.Join(append(lets, partsRenamed(body, other))...)
}

func partsRenamed(e api.Expr, other func(name string) string) api.Expr {
	made := api.Expr{Kind: e.Kind, Text: e.Text}
	if e.Kind == api.EVar {
		made.Text = other(e.Text)
	}
	for _, name := range e.Names {
		made.Names = append(made.Names, other(name))
	}
	for _, part := range e.A {
		made.A = append(made.A, renamed(part, other))
	}
	return made
}
