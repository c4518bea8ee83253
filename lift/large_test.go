package lift_test

import (
	"slices"
	"strconv"
	"testing"

	"thunk/api"
	"thunk/core"
	"thunk/lift"
)

const (
	deepest = 2000 // as deep as terms that are handed in may hang on one another
	wide    = 100000
)

// numbered is a name for each depth.
func numbered(base string, i int) string { return base + strconv.Itoa(i) }

func numberedNames(base string, n int) (l []string) {
	for i := range n {
		l = append(l, numbered(base, i))
	}
	return l
}

func variables(names []string) (l []api.Expr) {
	for _, name := range names {
		l = append(l, variable(name))
	}
	return l
}

// TestDeep: as deep as terms may be, functions in functions, in values, in arguments, and behind one another.
func TestDeep(t *testing.T) {
	one := integer("1")
	for i, c := range []struct {
		depth  int // of the terms that are put around
		around func(e api.Expr, i int) api.Expr
		params int // of all functions together
	}{
		{1, func(e api.Expr, i int) api.Expr { return lambda(e, numbered("x", i)) }, 2 * (deepest - 3)},
		{1, func(e api.Expr, i int) api.Expr { return app(e, variable("out")) }, 0},
		{1, func(e api.Expr, i int) api.Expr { return app(variable("out"), e) }, 0},
		{1, func(e api.Expr, i int) api.Expr { return prim("cons", one, e) }, 0},
		{1, func(e api.Expr, i int) api.Expr { return let(numbered("y", i), e, variable("out")) }, 0},
		{1, func(e api.Expr, i int) api.Expr {
			return let(numbered("f", i), lambda(variable("out"), numbered("x", i)), e)
		}, 2 * (deepest - 3)},
		{2, func(e api.Expr, i int) api.Expr {
			return let(numbered("f", i), lambda(e, numbered("x", i)), app(variable(numbered("f", i)), one))
		}, 2 * (deepest/2 - 3)},
		{2, func(e api.Expr, i int) api.Expr {
			return prim("+", variable("out"), lambda(e, numbered("x", i)))
		}, 2 * (deepest/2 - 3)},
		{2, func(e api.Expr, i int) api.Expr {
			return let(numbered("f", i), lambda(app(variable(numbered("f", i+1)), variable(numbered("x", i))), numbered("x", i)), prim("not", e))
		}, 2 * (deepest/2 - 3)},
	} {
		n := deepest/c.depth - 3
		e := variable("out")
		for i := range n {
			e = c.around(e, i)
		}
		e = lambda(let(numbered("f", n), lambda(variable("out"), "last"), e), "out")
		p, params := lift.Lift(e), 0
		for _, sup := range p.Sups[2:] {
			params += len(sup.Params)
		}
		if !lift.Right(p) || params != c.params {
			t.Errorf("P902: %d: Lift of a deep one has %d parameters, not %d", i, params, c.params)
		}
		if text := lift.Text(p); len(text) == 0 || !slices.Equal(p.Sups[1].Params, []string{"out", "last"}) {
			t.Errorf("P902: %d: Lift of a deep one", i)
		}
	}
}

// TestDeepExtras: each function is handed all that is bound around it.
func TestDeepExtras(t *testing.T) {
	const n = deepest / 2
	names := numberedNames("x", n)
	e := app(append([]api.Expr{variable("input")}, variables(names)...)...)
	for i := range n {
		e = lambda(e, names[i])
	}
	p := lift.Lift(e)
	if len(p.Sups) != n || !lift.Right(p) {
		t.Fatal("P902: Lift of a deep one")
	}
	for i, sup := range p.Sups {
		around := slices.Clone(names[n-i:])
		slices.Sort(around)
		if want := append(around, names[n-i-1]); !slices.Equal(sup.Params, want) {
			t.Fatalf("P902: %s of a deep one has %d parameters, not %d", sup.Name, len(sup.Params), len(want))
		}
	}
}

// row is a let of many functions, each calls the next one, or the one before; the last one's body is e.
func row(step int, e api.Expr) api.Expr {
	made := api.Expr{Kind: api.ELet, Names: numberedNames("f", wide)}
	last := 0
	if step > 0 {
		last = wide - 1
	}
	for i := range wide {
		x := numbered("x", i)
		body := app(variable(numbered("f", i+step)), variable(x))
		if i == last {
			body = e
		}
		made.A = append(made.A, lambda(body, x))
	}
	made.A = append(made.A, variable("f7"))
	return made
}

// TestWide: what one function must be handed all must be that ask for it, and the work is as long as what is answered.
func TestWide(t *testing.T) {
	for _, step := range []int{1, -1} {
		p := lift.Lift(let("y", integer("1"), row(step, variable("y"))))
		if len(p.Sups) != wide || core.Text(p.Main) != "(let ((y 1)) (f7 y))" || !lift.Right(p) {
			t.Fatal("P902: Lift of a wide row")
		}
		for i, sup := range p.Sups {
			if !slices.Equal(sup.Params, []string{"y", numbered("x", i)}) {
				t.Fatalf("P902: Lift of a wide row: %s takes %q", sup.Name, sup.Params)
			}
		}
	}
}

// TestManyExtras: of one function, and of one that is asked for again and again.
func TestManyExtras(t *testing.T) {
	names := numberedNames("y", wide)
	e := api.Expr{Kind: api.ELet, Names: names, A: slices.Repeat([]api.Expr{integer("1")}, wide)}
	e.A = append(e.A, lambda(app(append([]api.Expr{variable("x")}, variables(names)...)...), "x"))
	p := lift.Lift(e)
	slices.Sort(names)
	if len(p.Sups) != 1 || !slices.Equal(p.Sups[0].Params, append(names, "x")) || !lift.Right(p) {
		t.Error("P902: Lift of one with many extras")
	}
	calls := app(slices.Repeat([]api.Expr{variable("f")}, wide)...)
	p = lift.Lift(let("y", integer("1"), let("f", lambda(variable("y"), "x"), calls)))
	if got := p.Main; core.Size(got) != 5*wide || !lift.Right(p) {
		t.Errorf("P902: Lift of one that is asked for again and again: Size %d", core.Size(got))
	}
}

// TestDeepAndWide: many that are asked for far within: no function between is looked at for each of them.
func TestDeepAndWide(t *testing.T) {
	names := numberedNames("f", wide)
	e := app(variables(names)...)
	for i := range deepest/2 - 10 {
		e = lambda(e, numbered("x", i))
	}
	whole := api.Expr{Kind: api.ELet, Names: names}
	for i := range wide {
		whole.A = append(whole.A, lambda(integer("1"), numbered("y", i)))
	}
	whole.A = append(whole.A, e)
	p := lift.Lift(whole)
	if len(p.Sups) != wide+deepest/2-10 || len(p.Sups[wide].Params) != 1 || !lift.Right(p) {
		t.Error("P902: Lift of a deep and wide one")
	}
}
