package lift_test

import (
	"strings"
	"testing"

	"thunk/api"
	"thunk/lift"
)

// right are programs that Right is true of.
func right() []string {
	return []string{
		// what is asked, alone
		"5", "-1", "#t", "()", "'a", "input", "(car input)", "(let ((x input)) x)", "(let ((input 1)) input)", "((if input input input) 1)",
		// functions, used or not, by themselves and by others
		"f x = x|f", "f x = x|5", "f x = x|(f 1)", "f x y z = (x y z)|(f f f input)", "f x = 1|g x = 2|h x = x|(let ((x 1)) (f x))",
		"f x = (g x)|g y = (f y)|(g 1)", "f x = (+ (f x) (car (f x)))|f", "f x = ((f x) x)|((f 1) 2)",
		// input, and names of its text
		"f x = input|f", "f input = input|(f 1)", "input x = x|(input input)",
		// names that are bound again within
		"f x = (let ((x 1)) x)|f", "f x = (let ((y y)) y)|(let ((x x) (f f)) (f x))", "f x = (let ((g x)) g)|g x = x|f",
		// names that lets give to arguments
		"f x = (let ((y (f x))) (cons y x))|(let ((z (f 1))) (if z (f z) input))", "%l.1 %.1 x.1 = (let ((%p.1 (car x.1))) (cons %p.1 %.1))|(%l.1 1)", "f f.1 = f.1|f",
	}
}

// wrong are programs that are not right, each by one fault of its own.
func wrong() []string {
	return []string{
		// names that are nothing's
		"x", "(x 1)", "inputs", "(let ((x 1)) y)", "f x = x|x", "f x = x|(f x)", "f x = x|(g 1)", "f x = y|f", "f x = x|g y = x|f", "f x = x|g y = (f x)|f", "f x = (let ((y 1)) (+ y z))|f", "f x = (+ (let ((y 1)) y) y)|f",
		// names of functions, and of what they take
		"f = 1|f", "f x = x|g = 1|f", "f x x = x|f", "f x y z x = y|f", "f x = x|f x = x|f", "f x = x|g x = x|f y = y|g",
		"f f = f|f", "f x = x|g f = f|f", "f g = g|g x = x|f", "f x y g = g|g x = x|f", "f x input = x|input x = x|f",
		// functions within terms
		"(lambda (x) x)", "(let ((f (lambda (x) x))) (f 1))", "(car (lambda (x) x))", "(if 1 2 (lambda (x) 1))", "f x = (lambda (y) x)|f", "f x = x|g x = (let ((y (lambda (z) z))) y)|f", "((lambda (x) x) 1)",
		// arguments that are no atoms
		"f x = x|(f (f 1))", "f x = (f (f x))|f", "(cons (car input) 1)", "(cons 1 (cons 2 ()))", "f x = (let ((y (f (if x x x)))) y)|f", "f x = (+ 1 (cons (car x) x))|f", "f x = x|(f (let ((x 1)) x))",
		// what is no term
		"01", "#x", "(if 1 2)", "(if 1 2 3 4)", "(car 1 2)", "(+ 1)", "(let () 1)", "(let ((x 1)) x x)", "f x = (let ((y 1) (y 2)) y)|f", "f x = (f)|f", "f x = x|(f)", "f x = -0|f", "f x = x|g x = (if x)|f",
	}
}

func checkRight(t *testing.T, p api.Prog, want bool) {
	t.Helper()
	if lift.Right(p) != want {
		t.Errorf("P901: Right of %+v is not %v", p, want)
	}
}

func TestRight(t *testing.T) {
	for _, s := range right() {
		checkRight(t, program(t, s), true)
	}
	for _, s := range wrong() {
		checkRight(t, program(t, s), false)
	}
	checkRight(t, api.Prog{Sups: []api.Sup{}, Main: integer("1")}, true)
}

// TestRightEmpty: no name is empty, and nothing is left out.
func TestRightEmpty(t *testing.T) {
	one, x := integer("1"), []string{"x"}
	for _, p := range []api.Prog{
		{},
		{Sups: []api.Sup{{}}, Main: one},
		{Sups: []api.Sup{{Params: x, Body: one}}, Main: one},
		{Sups: []api.Sup{{Name: "f", Params: []string{""}, Body: one}}, Main: one},
		{Sups: []api.Sup{{Name: "f", Params: []string{"x", "", "y"}, Body: one}}, Main: one},
		{Sups: []api.Sup{{Name: "f", Params: x}}, Main: one},
		{Sups: []api.Sup{{Name: "f", Params: x, Body: one}}},
		{Sups: []api.Sup{{Name: "f", Params: x, Body: one}, {Params: x, Body: one}}, Main: one},
		{Main: variable("")},
		{Main: api.Expr{Kind: api.ENil, Text: "()"}},
		{Main: api.Expr{Kind: api.EInt, Text: "1", Names: []string{""}}},
		{Main: prim("list", one)},
		{Main: api.Expr{Kind: 11, Text: "1"}},
	} {
		checkRight(t, p, false)
	}
}

func TestText(t *testing.T) {
	for _, s := range append(right(), wrong()...) {
		want := strings.ReplaceAll(s, "|", "\n") + "\n"
		if got := lift.Text(program(t, s)); got != want {
			t.Errorf("P901: Text is %q, not %q", got, want)
		}
	}
	e := term(t, "(let ((y (lambda (z) (car z)))) (if x '= y))")
	p := api.Prog{Sups: []api.Sup{{Name: "f.1", Params: []string{"x", "=", "%.2"}, Body: e}, {Name: "g", Body: integer("-1")}}, Main: e}
	want := "f.1 x = %.2 = (let ((y (lambda (z) (car z)))) (if x '= y))\ng = -1\n(let ((y (lambda (z) (car z)))) (if x '= y))\n"
	if got := lift.Text(p); got != want {
		t.Errorf("P901: Text is %q, not %q", got, want)
	}
}
