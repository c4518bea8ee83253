// Package chain: terms that hang on one another by their last parts. An application of many arguments that are named is a chain of as many lets: what goes through it by this package makes no call within a call for each of them, so that it may be as long as memory is.
package chain

import (
	"iter"
	"slices"

	"thunk/api"
)

// Of goes through e, its last part, the last part of that, and so on; with each of them go its parts ahead of the last.
func Of(e api.Expr) iter.Seq2[api.Expr, []api.Expr] {
	return func(yield func(e api.Expr, ahead []api.Expr) bool) {
		at := e
		for len(at.A) > 0 {
			last := len(at.A) - 1
			if !yield(at, at.A[:last]) {
				return
			}
			at = at.A[last]
		}
		yield(at, nil)
	}
}

// Lets is the lets that e begins with, each of them the last part of the one ahead of it, all without their last parts; and the term behind them all. A let that has not one part more than names is no such.
func Lets(e api.Expr) (lets []api.Expr, body api.Expr) {
	for e.Kind == api.ELet && len(e.A) == len(e.Names)+1 {
		n := len(e.Names)
		last := e.A[n]
		e.A = e.A[:n:n] // so that nothing is put where the last part stands
		lets = append(lets, e)
		e = last
	}
	return lets, e
}

// Join is the first of l, which has each of the others as the last part of the one ahead of it. Their lists are its own: they are handed over.
func Join(l ...api.Expr) api.Expr {
	e := l[len(l)-1]
	for _, around := range slices.Backward(l[:len(l)-1]) {
		around.A = append(around.A, e)
		e = around
	}
	return e
}
