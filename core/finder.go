package core

import (
	"thunk/api"
	"thunk/chain"
)

// around is how many of the terms around have each name: one may be bound again within, and is bound still when that one ends.
type around map[string]int

func (a around) enter(names ...string) {
	for _, name := range names {
		a[name]++
	}
}

func (a around) leave(names ...string) {
	for _, name := range names {
		a[name]--
	}
}

func (a around) has(name string) bool {
	return a[name] > 0
}

// finder goes through a term, and knows what is bound where it stands.
type finder struct {
	around
	free map[string]struct{}
}

// term finds what is free in e. Its names are bound in all its parts, as those of a let are in their values, too.
func (f finder) term(e api.Expr) {
	var bound []string
	for x, ahead := range chain.Of(e) {
		if x.Kind == api.EVar && !f.has(x.Text) {
			f.free[x.Text] = struct{}{}
		}
		f.enter(x.Names...)
		bound = append(bound, x.Names...)
		for _, part := range ahead {
			f.term(part)
		}
	}
	f.leave(bound...)
}
