package natural_test

import (
	"slices"
	"strings"
	"testing"

	"thunk/api"
)

func TestPrinted(t *testing.T) {
	checkRows(t, []row{
		{"(cons 1 (cons 2 ()))", "(1 2)", 2, 1}, {"(cons 1 (cons 2 3))", "(1 2 . 3)", 2, 1}, {"(cons (cons 1 2) 3)", "((1 . 2) . 3)", 2, 1},
		{"(cons () ())", "(())", 1, 0}, {"(cons (cons () ()) (lambda (x) x))", "((()) . #<function>)", 3, 2}, {"(cons (lambda (x) x) #f)", "(#<function> . #f)", 2, 1},
		{"(cons 'a 'b)", "(a . b)", 1, 0}, {"(cons '. '.)", "(. . .)", 1, 0}, {"(cons 1 (cons (cons 2 (cons 3 ())) (cons 4 5)))", "(1 (2 3) 4 . 5)", 5, 4},
		{"(cons input input)", "((7 -3) 7 -3)", 1, 0}, {"(cons 0 (cdr input))", "(0 -3)", 3, 1},
		// in order: what is first, then what is second
		{"(cons (error 1) (error 2))", "! error 1", 3, 1}, {"(cons 1 (error 2))", "! error 2", 3, 1}, {"(cons 1 (cons (error 1) (error 2)))", "! error 1", 4, 2}, {"(cons (cons 1 (error 2)) (error 3))", "! error 2", 4, 2}, {"(cons 1 (cons 2 (car 3)))", "! pair", 4, 2},
		// a cell of two places is reckoned once
		{"(let ((x (+ 1 2))) (cons x (cons x x)))", "(3 3 . 3)", 6, 2},
	})
	check(t, variable("input"), nil, "()", 1, 0)
	check(t, variable("input"), []string{"0"}, "(0)", 1, 0)
}

// ones is a list of n ones, rest behind them.
func ones(n int, rest api.Expr) api.Expr {
	for range n {
		rest = prim("cons", integer("1"), rest)
	}
	return rest
}

// TestMaxText: texts of as many bytes as may be, and of more: `(1 1 .. 1` are 2000 bytes of 1000 ones.
func TestMaxText(t *testing.T) {
	null, fault := api.Expr{Kind: api.ENil}, prim("error", integer("2"))
	row := func(n int) string { return "(" + strings.Repeat("1 ", n-1) + "1" }
	for _, c := range []struct {
		e     api.Expr
		want  string
		steps int
		uses  int
	}{
		{symbol(strings.Repeat("x", api.MaxText)), strings.Repeat("x", api.MaxText), 1, 0},
		{symbol(strings.Repeat("x", api.MaxText+1)), "! limit", 1, 0},
		{symbol(strings.Repeat("é", api.MaxText/2)), strings.Repeat("é", api.MaxText/2), 1, 0},
		{symbol(strings.Repeat("é", api.MaxText/2) + "x"), "! limit", 1, 0},
		{ones(999, null), row(999) + ")", 999, 998},
		{prim("cons", integer("10"), ones(998, null)), "(10" + row(999)[2:] + ")", 999, 998},
		{ones(1000, null), "! limit", 1000, 999},
		{ones(998, integer("2")), "! limit", 998, 997},
		{ones(997, integer("23")), row(997) + " . 23)", 997, 996},
		{ones(997, integer("234")), "! limit", 997, 996},
		{ones(994, lambda(null, "x")), "! limit", 995, 994},
		{ones(992, lambda(null, "x")), row(992) + " . #<function>)", 993, 992},
		// what stands behind the bound is not reckoned; what stands ahead is
		{ones(999, fault), "! error 2", 1001, 999},
		{ones(1000, fault), "! error 2", 1002, 1000},
		{ones(999, prim("cons", fault, null)), "! error 2", 1002, 1000},
		{ones(1000, prim("cons", fault, null)), "! limit", 1001, 1000},
		{ones(998, prim("cons", symbol("ab"), prim("cons", fault, null))), "! error 2", 1002, 1000},
		{ones(998, prim("cons", symbol("abc"), prim("cons", fault, null))), "! limit", 1000, 999},
		{ones(998, prim("cons", symbol("abcd"), fault)), "! limit", 999, 998},
		// pairs within firsts: `((..(` of 1000, then 1001 brackets
		{nested(999), strings.Repeat("(", 1000) + strings.Repeat(")", 1000), 999, 998},
		{nested(1000), "! limit", 1000, 999},
		// no end
		{let("x", ones(1, variable("x")), variable("x")), "! limit", 3, 1},
		{let("x", prim("cons", variable("x"), variable("x")), variable("x")), "! limit", 3, 1},
		{let("x", prim("cons", variable("x"), fault), variable("x")), "! limit", 3, 1},
	} {
		check(t, c.e, nil, c.want, c.steps, c.uses)
	}
}

// nested is () within n lists of one.
func nested(n int) api.Expr {
	e := api.Expr{Kind: api.ENil}
	for range n {
		e = prim("cons", e, api.Expr{Kind: api.ENil})
	}
	return e
}

// TestInput: numbers of all lengths, none to many.
func TestInput(t *testing.T) {
	long := strings.Repeat("9", api.MaxDigits)
	for _, c := range []struct {
		s    string
		read []string
		row
	}{
		{"input", nil, row{"", "()", 1, 0}}, {"input", []string{}, row{"", "()", 1, 0}}, {"input", []string{"0", "-1", long, "-" + long}, row{"", "(0 -1 " + long + " -" + long + ")", 1, 0}},
		{"(+ (car input) 1)", []string{"-1"}, row{"", "0", 4, 0}}, {"(+ (car input) 1)", []string{long}, row{"", "! limit", 4, 0}}, {"(null? (cdr input))", []string{"1"}, row{"", "#t", 3, 0}},
	} {
		check(t, term(t, c.s), c.read, c.want, c.steps, c.uses)
	}
	many := slices.Repeat([]string{"1"}, 999)
	check(t, variable("input"), many, "("+strings.Repeat("1 ", 998)+"1)", 1, 0)
	check(t, variable("input"), append(many, "1"), "! limit", 1, 0)
	check(t, prim("car", variable("input")), slices.Repeat(many, 100), "1", 2, 0)
}
