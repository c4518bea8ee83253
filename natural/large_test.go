package natural_test

import (
	"slices"
	"strconv"
	"strings"
	"testing"

	"thunk/api"
)

const (
	deepest = 2000 // as deep as terms that are handed in may hang on one another
	wide    = 100000
)

// numbered is a name for each number.
func numbered(base string, i int) string { return base + strconv.Itoa(i) }

func numberedNames(base string, n int) (l []string) {
	for i := range n {
		l = append(l, numbered(base, i))
	}
	return l
}

func variables(names []string) (l []api.Expr) {
	for _, name := range names {
		l = append(l, variable(name))
	}
	return l
}

// TestDeep: as deep as terms may be, in each place.
func TestDeep(t *testing.T) {
	one, x, y := integer("1"), variable("x0"), variable("y")
	for i, c := range []struct {
		depth       int // of the terms that are put around
		around      func(e api.Expr, i int) api.Expr
		more        int // what is added each time
		steps, uses int
	}{
		{1, func(e api.Expr, i int) api.Expr { return prim("+", one, e) }, 1, 2, 0},
		{1, func(e api.Expr, i int) api.Expr { return prim("+", e, x) }, 7, 2, 0},
		{3, func(e api.Expr, i int) api.Expr { return prim("car", prim("cons", prim("seq", one, e), one)) }, 0, 4, 1},
		{1, func(e api.Expr, i int) api.Expr { return prim("seq", x, e) }, 0, 2, 0},
		{1, func(e api.Expr, i int) api.Expr { return api.Expr{Kind: api.EIf, A: []api.Expr{x, e, x}} }, 0, 2, 0},
		{1, func(e api.Expr, i int) api.Expr { return let(numbered("x", i+1), x, e) }, 0, 1, 0},
		{2, func(e api.Expr, i int) api.Expr { return let("y", prim("+", e, one), y) }, 1, 4, 1},
		{2, func(e api.Expr, i int) api.Expr { return app(lambda(y, "y"), prim("+", e, one)) }, 1, 5, 1},
		{2, func(e api.Expr, i int) api.Expr { return app(lambda(e, numbered("x", i+1)), one) }, 0, 2, 0},
	} {
		n := (deepest - 10) / c.depth
		e := x
		for i := range n {
			e = c.around(e, i)
		}
		want := answer{outcome(strconv.Itoa(7 + n*c.more)), 3 + n*c.steps, 1 + n*c.uses}
		if got := eval(let("x0", integer("7"), e), nil, maxFuel); got != want {
			t.Errorf("P1001: %d: a deep one is %v, not %v", i, got, want)
		}
	}
}

// TestDeepNames: each of many names that are bound one within another is found.
func TestDeepNames(t *testing.T) {
	const n = deepest / 2
	names := numberedNames("x", n)
	sum := integer("0")
	for _, name := range names[:n-2] {
		sum = prim("+", sum, variable(name))
	}
	e, values := sum, []api.Expr{}
	for i := range n - 2 {
		e = lambda(e, names[n-3-i])
		values = append(values, integer(strconv.Itoa(i)))
	}
	e = app(append([]api.Expr{e}, values...)...)
	check(t, e, nil, strconv.Itoa((n-3)*(n-2)/2), 1+(n-2)+2*(n-2)+1, 0)
}

// TestLongWay: as many steps as may be, each within the one before, and one behind another.
func TestLongWay(t *testing.T) {
	x, f := variable("x"), variable("f")
	less := prim("-", x, integer("1"))
	end := prim("=", x, integer("0"))
	for _, c := range []struct {
		body        api.Expr
		n           int
		want        string
		steps, uses int
	}{
		{prim("+", integer("1"), app(f, x)), 1, "! fuel", maxFuel + 1, 1},
		{app(f, x), 1, "! fuel", maxFuel + 1, 1},
		{app(f, prim("+", x, integer("1"))), 1, "! fuel", maxFuel + 1, 1},
		{prim("car", app(f, prim("cons", x, x))), 1, "! fuel", maxFuel + 1, 1},
		{api.Expr{Kind: api.EIf, A: []api.Expr{end, integer("5"), app(f, less)}}, 9000, "5", 9 + 9000*9, 9001},
		{api.Expr{Kind: api.EIf, A: []api.Expr{end, integer("5"), prim("+", integer("1"), app(f, less))}}, 8000, "8005", 9 + 8000*11, 8001},
	} {
		e := let("f", lambda(c.body, "x"), app(f, integer(strconv.Itoa(c.n))))
		if got := eval(e, nil, maxFuel); got != (answer{outcome(c.want), c.steps, c.uses}) {
			t.Errorf("P1002: a long way is %v, not %q in %d steps with %d uses", got, c.want, c.steps, c.uses)
		}
	}
}

// TestWide: many names of one term, many arguments, much that is read.
func TestWide(t *testing.T) {
	names := numberedNames("y", wide)
	numbers := []api.Expr{}
	for i := range wide {
		numbers = append(numbers, integer(strconv.Itoa(i)))
	}
	take := lambda(prim("-", variable(names[wide-1]), variable("y1")), names...)
	calls := app(append([]api.Expr{take}, variables(names)...)...)
	again := app(slices.Repeat([]api.Expr{variable("f")}, 30001)...)
	for i, c := range []struct {
		e           api.Expr
		want        string
		steps, uses int
	}{
		{app(append([]api.Expr{take}, numbers...)...), "99998", 5, 0},
		{api.Expr{Kind: api.ELet, Names: names, A: append(slices.Clone(numbers), calls)}, "99998", 8, 2},
		{api.Expr{Kind: api.ELet, Names: names[:40000], A: append(variables(names[1:40000]), integer("3"), variable("y0"))}, "3", 40002, 40000},
		{let("f", lambda(variable("f"), "x"), again), "#<function>", 4 + 30000, 1},
		{prim("car", variable("input")), "12", 2, 0},
	} {
		input := strings.Fields(strings.Repeat("12 ", wide))
		if got := eval(c.e, input, maxFuel); got != (answer{outcome(c.want), c.steps, c.uses}) {
			t.Errorf("P1001: %d: a wide one is %v, not %q in %d steps with %d uses", i, got, c.want, c.steps, c.uses)
		}
	}
}
