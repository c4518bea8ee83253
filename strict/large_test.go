package strict_test

import (
	"slices"
	"strconv"
	"testing"

	"thunk/api"
	"thunk/strict"
)

func lambda(body api.Expr, names ...string) api.Expr {
	return api.Expr{Kind: api.ELam, Names: names, A: []api.Expr{body}}
}

func cond(parts ...api.Expr) api.Expr { return api.Expr{Kind: api.EIf, A: parts} }

const deepest = 2000 // as deep as terms that are handed in may hang on one another

// numbered is a name for each depth.
func numbered(base string, i int) string { return base + strconv.Itoa(i) }

// TestDeepDemands: as deep as terms may be.
func TestDeepDemands(t *testing.T) {
	x, y := variable("x"), variable("y")
	known := []strict.Need{{Name: "f", Of: []bool{true}}, {Name: "g", Of: []bool{false}}}
	for _, c := range []struct {
		around func(e api.Expr, i int) api.Expr
		want   int // how many names
	}{
		{func(e api.Expr, i int) api.Expr { return prim("not", e) }, 1},
		{func(e api.Expr, i int) api.Expr { return prim("+", e, variable(numbered("v", i))) }, deepest - 1},
		{func(e api.Expr, i int) api.Expr { return prim("cons", e, y) }, 0},
		{func(e api.Expr, i int) api.Expr { return app(e, y) }, 1},
		{func(e api.Expr, i int) api.Expr { return app(variable("f"), e) }, 2},
		{func(e api.Expr, i int) api.Expr { return app(variable("g"), e) }, 1},
		{func(e api.Expr, i int) api.Expr { return cond(e, y, variable(numbered("v", i))) }, 1},
		{func(e api.Expr, i int) api.Expr {
			return cond(variable(numbered("v", i)), prim("error", y), e)
		}, deepest - 1},
		{func(e api.Expr, i int) api.Expr {
			return cond(y, e, prim("+", x, variable(numbered("v", i))))
		}, 2},
		{func(e api.Expr, i int) api.Expr { return lambda(e, "x") }, 0},
		{func(e api.Expr, i int) api.Expr { return let("y", y, e) }, 1},
		{func(e api.Expr, i int) api.Expr { return let("y", e, y) }, 1},
		{func(e api.Expr, i int) api.Expr {
			if i == 0 {
				e = prim("+", x, variable("v0"))
			}
			return let(numbered("v", i), variable(numbered("v", i+1)), e)
		}, 2},
	} {
		e := x
		for i := range deepest - 2 {
			e = c.around(e, i)
		}
		if names, all := strict.Demands(e, known); len(names) != c.want || all {
			t.Errorf("P801: Demands of a deep %d %s has %d names", e.Kind, e.Text, len(names))
		}
	}
}

// TestDeepNeeds: functions in functions, in values, and behind one another.
func TestDeepNeeds(t *testing.T) {
	const depth = deepest/3 - 1 // as each is at most three terms deep
	one := integer("1")
	for _, c := range []struct {
		around func(e api.Expr, f, x string) api.Expr
		want   string // what is needed
	}{
		{func(e api.Expr, f, x string) api.Expr { return let(f, lambda(e, x), variable(f)) }, "0"},
		{func(e api.Expr, f, x string) api.Expr { return let(f, lambda(e, x), app(variable(f), one)) }, "0"},
		{func(e api.Expr, f, x string) api.Expr { return let(f, lambda(prim("seq", variable(x), e), x), one) }, "1"},
		{func(e api.Expr, f, x string) api.Expr { return let(f, lambda(variable(x), x), e) }, "1"},
		{func(e api.Expr, f, x string) api.Expr {
			return let(f, lambda(app(variable(f), variable(x)), x), cond(one, one, e))
		}, "1"},
		{func(e api.Expr, f, x string) api.Expr { return prim("car", let(f, lambda(one, x), e)) }, "0"},
	} {
		e := variable("free")
		for i := depth; i > 0; i-- {
			e = c.around(e, numbered("f", i), numbered("x", i))
		}
		l := strict.Needs(e)
		if len(l) != depth {
			t.Errorf("P802: Needs of a deep one are %d", len(l))
		}
		for i, need := range l {
			if got := needsText([]strict.Need{need}); got != numbered("f", i+1)+":"+c.want {
				t.Fatalf("P802: Needs of a deep one: %d is %s", i+1, got)
			}
		}
	}
}

const wide = 100000

// TestWideDemands: the work for what is wide is as long as that is.
func TestWideDemands(t *testing.T) {
	var args, up, down []api.Expr
	of := make([]bool, wide)
	for i := range wide {
		args = append(args, variable(numbered("v", i)))
		of[i] = i%2 == 0
	}
	e := app(append([]api.Expr{variable("f")}, args...)...)
	if got, _ := strict.Demands(e, []strict.Need{{Name: "f", Of: of}}); len(got) != wide/2+1 || got[0] != "f" || got[1] != "v0" {
		t.Errorf("P801: Demands of a wide call has %d names", len(got))
	}
	bound := make([]string, wide)
	for i := range wide {
		bound[i] = numbered("v", i)
		up = append(up, variable(numbered("v", i+1)))
		down = append(down, variable(numbered("v", i-1)))
	}
	for _, c := range []struct {
		values     []api.Expr
		body, want string
	}{{up, "v0", numbered("v", wide)}, {down, numbered("v", wide-1), "v-1"}} {
		e := api.Expr{Kind: api.ELet, Names: bound, A: append(c.values, variable(c.body))}
		if got, _ := strict.Demands(e, nil); !slices.Equal(got, []string{c.want}) {
			t.Errorf("P801: Demands of a wide let is %q, not %q", got[:min(2, len(got))], c.want)
		}
	}
}

// row is a let of many functions, each calls the next one, or the one before, and the last one's body is e.
func row(step int, e api.Expr) api.Expr {
	let := api.Expr{Kind: api.ELet}
	last := 0
	if step > 0 {
		last = wide - 1
	}
	for i := range wide {
		x := numbered("x", i)
		body := app(variable(numbered("f", i+step)), variable(x))
		if i == last {
			body = cond(e, variable(x), e)
		}
		let.Names, let.A = append(let.Names, numbered("f", i)), append(let.A, lambda(body, x))
	}
	let.A = append(let.A, integer("1"))
	return let
}

// TestWideNeeds: what shows of one function tells of those that call it, and no others are gone through again.
func TestWideNeeds(t *testing.T) {
	for _, step := range []int{1, -1} {
		for _, c := range []struct {
			e    api.Expr
			want bool
		}{{integer("1"), false}, {prim("error", integer("1")), true}} {
			l := strict.Needs(row(step, c.e))
			if len(l) != wide || slices.ContainsFunc(l, func(need strict.Need) bool { return len(need.Of) != 1 || need.Of[0] != c.want }) {
				t.Errorf("P802: Needs of %d functions, each calls the one %d behind it: not all are %v", len(l), step, c.want)
			}
		}
	}
}

// TestManyCalls: a function that calls another one many times is looked at as often as that one changes, not as often as it calls.
func TestManyCalls(t *testing.T) {
	f, x := variable("f"), variable("x")
	body := api.Expr{Kind: api.ELet}
	for i := range wide {
		body.Names, body.A = append(body.Names, numbered("v", i)), append(body.A, app(f, x, x))
	}
	body.A = append(body.A, variable("v7"))
	one := lambda(integer("1"), "y", "z")
	e := api.Expr{Kind: api.ELet, Names: []string{"g", "f"}, A: []api.Expr{lambda(body, "x"), one, f}}
	if got := needsText(strict.Needs(e)); got != "g:0 f:00" {
		t.Errorf("P802: Needs of one with many calls is %s", got)
	}
}
