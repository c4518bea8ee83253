package machine_test

import (
	"runtime/debug"
	"slices"
	"strconv"
	"testing"

	"thunk/api"
	"thunk/core"
)

// smallStack has calls within calls end early, till the test does.
func smallStack(t *testing.T) {
	before := debug.SetMaxStack(4 << 20)
	t.Cleanup(func() { debug.SetMaxStack(before) })
}

// TestLong: P1: a long chain of lets, one the last part of the other, makes no call within a call for each of them, made or gone through: of values that are asked for, that are not, and that ask for one another.
func TestLong(t *testing.T) {
	smallStack(t)
	const long = wide / 3
	one, x := integer("1"), variable("x")
	for i, c := range []struct {
		long  int
		value func(i int) api.Expr
		body  func(n int) api.Expr
		want  func(n int) int
	}{
		{long, func(i int) api.Expr { return prim("+", x, one) }, func(n int) api.Expr { return x }, func(n int) int { return 7 }},
		{long, func(i int) api.Expr { return prim("+", x, one) }, func(n int) api.Expr { return variable("y0") }, func(n int) int { return 8 }},
		{long, func(i int) api.Expr { return prim("+", variable(numbered("y", i+1)), one) }, func(n int) api.Expr { return variable("y0") }, func(n int) int { return 7 + n }},
		{long, func(i int) api.Expr { return variable(numbered("y", i+1)) }, func(n int) api.Expr { return variable("y0") }, func(n int) int { return 7 }},
		{2000, func(i int) api.Expr { return prim("+", x, one) }, func(n int) api.Expr { return sum(variables(numberedNames("y", n))...) }, func(n int) int { return 8 * n }},
	} {
		e := c.body(c.long)
		for j := range c.long {
			e = let(numbered("y", j), c.value(j), e)
		}
		e = let(numbered("y", c.long), x, e)
		checkLarge(t, i, api.Prog{Sups: []api.Sup{sup("f", e, "x")}, Main: app(variable("f"), integer("7"))}, strconv.Itoa(c.want(c.long)))
		checkLarge(t, i, api.Prog{Main: let("x", integer("7"), e)}, strconv.Itoa(c.want(c.long)))
	}
}

// TestLongValue: a value that is such a chain, and asks for what is bound around it.
func TestLongValue(t *testing.T) {
	smallStack(t)
	e := variable("z")
	for j := range wide {
		e = let(numbered("y", j), prim("cons", variable("x"), variable("z")), e)
	}
	if core.Size(e) != 4*wide+1 {
		t.Fatal("no long one")
	}
	body := prim("seq", variable("v"), prim("-", variable("v"), variable("x")))
	both := api.Expr{Kind: api.ELet, Names: []string{"z", "v"}, A: slices.Concat([]api.Expr{integer("9"), e}, []api.Expr{body})}
	checkLarge(t, 0, api.Prog{Main: let("x", integer("7"), both)}, "2")
}
