package lift

import (
	"slices"

	"thunk/api"
	"thunk/chain"
	"thunk/core"
	"thunk/norm"
)

// names are some, none twice.
type names map[string]struct{}

func (n names) has(name string) bool {
	_, is := n[name]
	return is
}

// apart is the names of l, and whether none of them is empty, or there twice.
func apart(l ...string) (n names, is bool) {
	n = make(names, len(l))
	for _, name := range l {
		if name == "" || n.has(name) {
			return nil, false
		}
		n[name] = struct{}{}
	}
	return n, true
}

// wrong tells whether sup is no function of its own, where n are the names of all of these.
func (n names) wrong(sup api.Sup) bool {
	params, is := apart(sup.Params...)
	return !is || len(params) == 0 || slices.ContainsFunc(sup.Params, n.has) || !termRight(sup.Body, n, params)
}

// termRight tells whether e is a term of a program, nothing free in it but what one of known has, and what is read.
func termRight(e api.Expr, known ...names) bool {
	strange := func(name string) bool {
		return name != input && !slices.ContainsFunc(known, func(n names) bool { return n.has(name) })
	}
	return core.Right(e) && !hasLambda(e) && norm.Is(e) && !slices.ContainsFunc(core.Free(e), strange)
}

func hasLambda(e api.Expr) bool {
	for x, ahead := range chain.Of(e) {
		if x.Kind == api.ELam || slices.ContainsFunc(ahead, hasLambda) {
			return true
		}
	}
	return false
}
