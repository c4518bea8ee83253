package natural_test

import (
	"slices"
	"strings"
	"testing"

	"thunk/api"
)

func TestPairs(t *testing.T) {
	checkRows(t, []row{
		{"(cons 1 2)", "(1 . 2)", 1, 0},
		{"(pair? (cons (error 1) (error 2)))", "#t", 2, 0},
		{"(cons (+ 1 2) ())", "(3)", 4, 1},
		{"(let ((x 5)) (cons x x))", "(5 . 5)", 3, 1},
		{"(car (cons 1 (error 2)))", "1", 2, 0}, {"(cdr (cons (error 1) 2))", "2", 2, 0},
		{"(car (cons (+ 1 2) 4))", "3", 5, 1}, {"(cdr (cons 1 (+ 2 3)))", "5", 5, 1},
		{"(let ((x (cons (+ 1 2) 4))) (+ (car x) (car x)))", "6", 10, 2},
		{"(car input)", "7", 2, 0}, {"(cdr input)", "(-3)", 2, 0}, {"(car (cdr input))", "-3", 3, 0}, {"(cdr (cdr input))", "()", 3, 0}, {"(car (cdr (cdr input)))", "! pair", 4, 0},
		{"(car 5)", "! pair", 2, 0}, {"(cdr #t)", "! pair", 2, 0}, {"(car ())", "! pair", 2, 0}, {"(cdr ())", "! pair", 2, 0}, {"(cdr 'a)", "! pair", 2, 0}, {"(car (lambda (x) x))", "! pair", 2, 0},
		{"(car (error 1))", "! error 1", 3, 0}, {"(car (cons (error 1) (error 2)))", "! error 1", 4, 1},
	})
}

func TestNumbers(t *testing.T) {
	checkRows(t, []row{
		{"(+ 1 2)", "3", 3, 0}, {"(+ 99999999999999999999 1)", "100000000000000000000", 3, 0}, {"(+ 5 -7)", "-2", 3, 0},
		{"(- 1 2)", "-1", 3, 0}, {"(- 2 2)", "0", 3, 0}, {"(- -1 -2)", "1", 3, 0},
		{"(* -3 4)", "-12", 3, 0}, {"(* 0 -4)", "0", 3, 0}, {"(* 99999999999 99999999999)", "9999999999800000000001", 3, 0},
		{"(quotient 7 2)", "3", 3, 0}, {"(quotient -7 2)", "-3", 3, 0}, {"(quotient 1 -2)", "0", 3, 0}, {"(quotient 0 5)", "0", 3, 0},
		{"(remainder 7 2)", "1", 3, 0}, {"(remainder -7 2)", "-1", 3, 0}, {"(remainder 7 -2)", "1", 3, 0}, {"(remainder 6 3)", "0", 3, 0},
		{"(< 1 2)", "#t", 3, 0}, {"(< 2 2)", "#f", 3, 0}, {"(< 3 2)", "#f", 3, 0}, {"(< -10 -9)", "#t", 3, 0}, {"(< 9 10)", "#t", 3, 0},
		{"(= 2 2)", "#t", 3, 0}, {"(= 2 -2)", "#f", 3, 0}, {"(= 1 2)", "#f", 3, 0}, {"(= 2 1)", "#f", 3, 0},
		{"(quotient 1 0)", "! zero", 3, 0}, {"(remainder 1 0)", "! zero", 3, 0}, {"(quotient 0 0)", "! zero", 3, 0}, {"(remainder -7 (- 1 1))", "! zero", 5, 0}, {"(quotient 'a 0)", "! number", 2, 0}, {"(remainder 0 'a)", "! number", 3, 0},
		{"(+ (* 2 3) (- 4 5))", "5", 7, 0}, {"(+ (car input) (car (cdr input)))", "4", 6, 0},
	})
}

// TestNoNumbers: each part is looked at as soon as it is reckoned.
func TestNoNumbers(t *testing.T) {
	wrong := []string{"#t", "#f", "()", "'a", "'5", "(cons 1 2)", "(lambda (x) x)", "input"}
	for _, name := range []string{"+", "-", "*", "quotient", "remainder", "<", "="} {
		for _, s := range wrong {
			checkRows(t, []row{
				{"(" + name + " " + s + " (error 1))", "! number", 2, 0},
				{"(" + name + " 1 " + s + ")", "! number", 3, 0},
				{"(" + name + " (error 2) " + s + ")", "! error 2", 3, 0},
				{"(" + name + " 3 (error 4))", "! error 4", 4, 0},
			})
		}
	}
}

// TestDigits: of more digits than a number's text has.
func TestDigits(t *testing.T) {
	nines, power := strings.Repeat("9", api.MaxDigits), func(n int) string { return "1" + strings.Repeat("0", n) }
	for _, r := range []row{
		{"(+ N 0)", nines, 3, 0}, {"(+ N 1)", "! limit", 3, 0}, {"(+ -N -1)", "! limit", 3, 0}, {"(+ N -1)", nines[1:] + "8", 3, 0},
		{"(- N -1)", "! limit", 3, 0}, {"(- -N 1)", "! limit", 3, 0}, {"(- N N)", "0", 3, 0}, {"(- 0 N)", "-" + nines, 3, 0},
		{"(* N 1)", nines, 3, 0}, {"(* N 2)", "! limit", 3, 0}, {"(* N N)", "! limit", 3, 0}, {"(* A B)", power(api.MaxDigits - 1), 3, 0}, {"(* A A)", "! limit", 3, 0}, {"(* A -A)", "! limit", 3, 0},
		{"(quotient N -1)", "-" + nines, 3, 0}, {"(remainder N A)", nines[:100], 3, 0}, {"(quotient N A)", nines[:100], 3, 0}, {"(< -N N)", "#t", 3, 0}, {"(= N N)", "#t", 3, 0},
		{"(* N 'a)", "! number", 3, 0}, {"(error N)", "! error " + nines, 2, 0}, {"(seq (+ N N) 1)", "! limit", 4, 0}, {"(cons 1 (+ N 1))", "! limit", 4, 1},
	} {
		s := strings.NewReplacer("N", nines, "A", power(100), "B", power(99)).Replace(r.term)
		check(t, term(t, s), nil, r.want, r.steps, r.uses)
	}
}

func TestSeq(t *testing.T) {
	checkRows(t, []row{
		{"(seq 1 2)", "2", 3, 0}, {"(seq (error 1) 2)", "! error 1", 3, 0}, {"(seq 1 (error 2))", "! error 2", 4, 0},
		{"(seq (cons (error 1) 2) (cons 3 4))", "(3 . 4)", 3, 0}, {"(let ((x (+ 1 2))) (seq x 5))", "5", 7, 1}, {"(seq (lambda (x) x) #f)", "#f", 3, 0},
	})
}

// kinds are terms of each kind of values, and what null? pair? integer? symbol? not tell of it.
func kinds() [][6]string {
	return [][6]string{
		{"5", "#f", "#f", "#t", "#f", "#f"}, {"0", "#f", "#f", "#t", "#f", "#f"},
		{"#t", "#f", "#f", "#f", "#f", "#f"}, {"#f", "#f", "#f", "#f", "#f", "#t"},
		{"()", "#t", "#f", "#f", "#f", "#f"},
		{"'a", "#f", "#f", "#f", "#t", "#f"}, {"'#f", "#f", "#f", "#f", "#t", "#f"}, {"'5", "#f", "#f", "#f", "#t", "#f"},
		{"(cons 1 2)", "#f", "#t", "#f", "#f", "#f"}, {"input", "#f", "#t", "#f", "#f", "#f"},
		{"(lambda (x) #f)", "#f", "#f", "#f", "#f", "#f"},
	}
}

func TestAsking(t *testing.T) {
	for _, kind := range kinds() {
		for i, name := range []string{"null?", "pair?", "integer?", "symbol?", "not"} {
			checkRows(t, []row{{"(" + name + " " + kind[0] + ")", kind[i+1], 2, 0}, {"(" + name + " (error 1))", "! error 1", 3, 0}})
		}
	}
	checkRows(t, []row{
		{"(null? ((lambda (x y) x) 1))", "#f", 3, 0}, {"(pair? (cdr (cons 1 (cons 2 3))))", "#t", 4, 1}, {"(not (< 1 2))", "#f", 4, 0}, {"(integer? (+ 1 2))", "#t", 4, 0}, {"(not (not 1))", "#t", 3, 0},
	})
	check(t, prim("null?", symbol("()")), nil, "#f", 2, 0)
	check(t, prim("null?", variable("input")), nil, "#t", 2, 0)
}

// TestEq: constants of one text and kind are eq?, others never.
func TestEq(t *testing.T) {
	all := kinds()
	for i, a := range all {
		for j, b := range all {
			want := "#f"
			if i == j && !slices.Contains([]string{"(cons 1 2)", "input", "(lambda (x) #f)"}, a[0]) {
				want = "#t"
			}
			checkRows(t, []row{{"(eq? " + a[0] + " " + b[0] + ")", want, 3, 0}})
		}
	}
	checkRows(t, []row{
		{"(eq? 'a 'b)", "#f", 3, 0}, {"(eq? 5 -5)", "#f", 3, 0}, {"(eq? 6 (+ 2 4))", "#t", 5, 0}, {"(eq? #t (< 1 2))", "#t", 5, 0}, {"(eq? () (cdr (cdr input)))", "#t", 5, 0},
		{"(let ((x (cons 1 2))) (eq? x x))", "#f", 5, 1}, {"(let ((f (lambda (x) x))) (eq? f f))", "#f", 5, 1},
		{"(eq? (error 1) (error 2))", "! error 1", 3, 0}, {"(eq? 1 (error 2))", "! error 2", 4, 0}, {"(eq? (cons 1 2) (error 2))", "! error 2", 4, 0},
	})
	check(t, prim("eq?", symbol("()"), api.Expr{Kind: api.ENil}), nil, "#f", 3, 0)
}

func TestErrors(t *testing.T) {
	checkRows(t, []row{
		{"(error 5)", "! error 5", 2, 0}, {"(error -5)", "! error -5", 2, 0}, {"(error 'foo)", "! error foo", 2, 0}, {"(error #t)", "! error #t", 2, 0}, {"(error #f)", "! error #f", 2, 0}, {"(error ())", "! error ()", 2, 0},
		{"(error (cons 1 2))", "! error", 2, 0}, {"(error input)", "! error", 2, 0}, {"(error (lambda (x) x))", "! error", 2, 0}, {"(error ((lambda (x y) x) 1))", "! error", 3, 0},
		{"(error (error 1))", "! error 1", 3, 0}, {"(error (car 1))", "! pair", 3, 0}, {"(error (+ 1 2))", "! error 3", 4, 0},
		{"(let ((x (error x))) x)", "! loop", 4, 1}, {"(let ((x (error 1))) (cons x 2))", "! error 1", 4, 1},
	})
	long := strings.Repeat("x", 2*api.MaxText)
	check(t, prim("error", symbol(long)), nil, "! error "+long, 2, 0)
}
