package norm_test

import (
	"runtime/debug"
	"testing"

	"thunk/api"
	"thunk/core"
	"thunk/norm"
)

// long is how many arguments an application has, as one may that rules made.
const long = 200000

// smallStack has calls within calls end early, till the test does.
func smallStack(t *testing.T) {
	before := debug.SetMaxStack(16 << 20)
	t.Cleanup(func() { debug.SetMaxStack(before) })
}

// TestLong: P1: what is normed of very many arguments, and normed again, makes no call within a call for each of them.
func TestLong(t *testing.T) {
	smallStack(t)
	x := api.Expr{Kind: api.EVar, Text: "x"}
	call := api.Expr{Kind: api.EApp, A: []api.Expr{x, x}}
	e := api.Expr{Kind: api.EApp, A: []api.Expr{x}}
	for range long {
		e.A = append(e.A, call)
	}
	n := norm.Norm(e)
	if norm.Is(e) || !norm.Is(n) {
		t.Error("P701: Is of a long one")
	}
	if got := core.Size(n); got != core.Size(e)+2*long {
		t.Errorf("P701: Norm of a long one has a Size of %d", got)
	}
	if core.Text(norm.Norm(n)) != core.Text(n) {
		t.Error("P702: Norm of a long one that Is")
	}
	last := &n
	for last.Kind == api.ELet {
		last = &last.A[1]
	}
	*last = e
	if norm.Is(n) {
		t.Error("P701: Is of a long one with a last part that is not normed")
	}
}
