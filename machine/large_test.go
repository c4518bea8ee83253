package machine_test

import (
	"slices"
	"strconv"
	"testing"

	"thunk/api"
	"thunk/machine"
)

const (
	deepest = 2000 // as deep as terms that are handed in may hang on one another
	wide    = 100000
)

// numbered is a name for each number.
func numbered(base string, i int) string { return base + strconv.Itoa(i) }

func numberedNames(base string, n int) (l []string) {
	for i := range n {
		l = append(l, numbered(base, i))
	}
	return l
}

func variables(names []string) (l []api.Expr) {
	for _, name := range names {
		l = append(l, variable(name))
	}
	return l
}

// numbers are those from 0 on.
func numbers(n int) (l []api.Expr) {
	for i := range n {
		l = append(l, integer(strconv.Itoa(i)))
	}
	return l
}

// sum is that of all these, halved again and again.
func sum(l ...api.Expr) api.Expr {
	if len(l) == 1 {
		return l[0]
	}
	return prim("+", sum(l[:len(l)/2]...), sum(l[len(l)/2:]...))
}

func choice(a, b, c api.Expr) api.Expr { return api.Expr{Kind: api.EIf, A: []api.Expr{a, b, c}} }

func letAll(names []string, values []api.Expr, body api.Expr) api.Expr {
	return api.Expr{Kind: api.ELet, Names: names, A: append(slices.Clone(values), body)}
}

func sup(name string, body api.Expr, params ...string) api.Sup {
	return api.Sup{Name: name, Params: params, Body: body}
}

// checkLarge holds p against what it must come to, with as many words as may be.
func checkLarge(t *testing.T, what int, p api.Prog, want string) {
	t.Helper()
	for _, early := range []bool{false, true} {
		o, s := machine.Run(p, api.Config{Heap: maxHeap, Fuel: maxFuel, Early: early, Gc: []int{2, 1000, 1001}, Input: seven()})
		if o != outcome(want) || s.Twice != 0 || s.Updated > s.Entered || s.Entered > s.Thunks || s.Words > maxHeap {
			t.Errorf("P1301: %d, early: %v: a large one comes to %v, %+v, not %s", what, early, o, s, want)
		}
	}
}

// TestDeep: as deep as terms may be, in each place.
func TestDeep(t *testing.T) {
	one, x, z := integer("1"), variable("x"), variable("z")
	for i, c := range []struct {
		depth  int // of the terms that are put around
		around func(e api.Expr, i int) api.Expr
		want   int
	}{
		{1, func(e api.Expr, i int) api.Expr { return prim("+", one, e) }, 7 + deepest - 10},
		{1, func(e api.Expr, i int) api.Expr { return prim("+", e, x) }, 7 + 7*(deepest-10)},
		{1, func(e api.Expr, i int) api.Expr { return prim("seq", e, x) }, 7},
		{1, func(e api.Expr, i int) api.Expr { return choice(e, x, one) }, 7},
		{1, func(e api.Expr, i int) api.Expr { return choice(one, e, x) }, 7},
		{1, func(e api.Expr, i int) api.Expr { return let("z", e, z) }, 7},
		{1, func(e api.Expr, i int) api.Expr { return let(numbered("y", i), prim("+", x, one), e) }, 7},
		{2, func(e api.Expr, i int) api.Expr { return let("z", prim("+", e, one), prim("+", z, x)) }, 7 + 8*(deepest/2-10)},
		{2, func(e api.Expr, i int) api.Expr { return let("z", prim("cons", x, x), prim("+", prim("car", z), e)) }, 7 + 7*(deepest/2-10)},
	} {
		e := x
		for j := range deepest/c.depth - 10 {
			e = c.around(e, j)
		}
		checkLarge(t, i, api.Prog{Sups: []api.Sup{sup("f", e, "x")}, Main: app(variable("f"), integer("7"))}, strconv.Itoa(c.want))
	}
}

// TestDeepCalls: functions that are called one by the other, and what is given to what they come to.
func TestDeepCalls(t *testing.T) {
	var row []api.Sup
	for i := range wide {
		body := variable("x")
		if i > 0 {
			body = app(variable(numbered("f", i-1)), variable("x"))
		}
		row = append(row, sup(numbered("f", i), body, "x"))
	}
	checkLarge(t, 0, api.Prog{Sups: row, Main: app(variable(numbered("f", wide-1)), integer("5"))}, "5")
	e := variable("f")
	for range deepest - 10 {
		e = app(e, integer("1"))
	}
	checkLarge(t, 1, api.Prog{Sups: []api.Sup{sup("f", variable("f"), "x")}, Main: e}, "#<function>")
	checkLarge(t, 2, api.Prog{Sups: []api.Sup{sup("f", integer("5"), numberedNames("x", deepest-10)...)}, Main: e}, "5")
}

// TestWide: many names of one term, and many arguments; some numbers of pointers around those that one object may have.
func TestWide(t *testing.T) {
	for _, n := range []int{57, 58, 59, 60, 61, 116, 117, 118, 119, 120, 177, 178, 179, 1000, wide} {
		names := numberedNames("y", n)
		last := strconv.Itoa(n - 1)
		total := strconv.Itoa(n * (n - 1) / 2)
		all := sup("all", sum(variables(names)...), names...)
		calls := append([]api.Expr{variable("all")}, variables(names)...)
		ends := prim("-", variable(names[n-1]), variable("y0"))
		checkLarge(t, n, api.Prog{Sups: []api.Sup{sup("take", ends, names...)}, Main: app(append([]api.Expr{variable("take")}, numbers(n)...)...)}, last)
		checkLarge(t, n, api.Prog{Sups: []api.Sup{sup("self", variable("self"), "x")}, Main: app(append([]api.Expr{variable("self")}, numbers(n)...)...)}, "#<function>")
		checkLarge(t, n, api.Prog{Sups: []api.Sup{all}, Main: letAll(names, numbers(n), app(calls...))}, total)
		chain := append(variables(names[1:]), integer("3"))
		checkLarge(t, n, api.Prog{Main: letAll(names, chain, variable("y0"))}, "3")
		if n == wide {
			continue
		}
		for _, at := range []int{1, n / 2, n - 1} {
			checkLarge(t, n, keeping(n, at), strconv.Itoa(7-n*(n-1)/2))
			checkLarge(t, n, waiting(n, at), strconv.Itoa(7-n*(n-1)/2))
		}
	}
}

// keeping is a program with a thunk that keeps the first n numbers.
func keeping(n, at int) api.Prog {
	calls := append([]api.Expr{variable("all")}, variables(numberedNames("y", n))...)
	return given(n, at, let("z", app(calls...), prim("-", prim("car", variable("input")), variable("z"))))
}

// waiting is one that keeps them while it waits for something else.
func waiting(n, at int) api.Prog {
	return given(n, at, prim("-", prim("car", variable("input")), sum(variables(numberedNames("y", n))...)))
}

// given is one in which a function with that body is given n numbers, some ahead of the others.
func given(n, at int, body api.Expr) api.Prog {
	names := numberedNames("y", n)
	first := append([]api.Expr{variable("f")}, numbers(n)[:at]...)
	others := append([]api.Expr{variable("g")}, numbers(n)[at:]...)
	return api.Prog{Sups: []api.Sup{sup("all", sum(variables(names)...), names...), sup("f", body, names...)}, Main: let("g", app(first...), app(others...))}
}

// TestManyGiven: a function that is given one argument after the other, each time by something else.
func TestManyGiven(t *testing.T) {
	const n = 20000
	names := numberedNames("y", n)
	less := let("m", prim("-", variable("n"), integer("1")), prim("seq", variable("q"), app(variable("grow"), variable("q"), variable("m"))))
	grow := choice(prim("=", variable("n"), integer("0")), variable("p"), let("q", app(variable("p"), variable("n")), less))
	ends := prim("-", variable("y0"), variable(names[n-1]))
	p := api.Prog{Sups: []api.Sup{sup("grow", grow, "p", "n"), sup("ends", ends, names...)}, Main: app(variable("grow"), variable("ends"), integer(strconv.Itoa(n)))}
	checkLarge(t, 0, p, strconv.Itoa(n-1))
}
