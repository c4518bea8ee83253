package natural_test

import (
	"strings"
	"testing"

	"thunk/api"
	"thunk/core"
	"thunk/natural"
)

const maxFuel = 100000

// seven is what is read, mostly.
func seven() []string { return []string{"7", "-3"} }

// outcome is the one that is written so: `! ` stands ahead of what is not printed.
func outcome(s string) api.Outcome {
	switch why, is := strings.CutPrefix(s, "! "); {
	case !is:
		return api.Outcome{Kind: api.Printed, Text: s}
	case why == "loop":
		return api.Outcome{Kind: api.Loop}
	case why == "fuel":
		return api.Outcome{Kind: api.NoFuel}
	case why == "limit":
		return api.Outcome{Kind: api.Limit}
	default:
		return api.Outcome{Kind: api.Failed, Text: why}
	}
}

// answer is all that Eval answers.
type answer struct {
	o           api.Outcome
	steps, uses int
}

func eval(e api.Expr, input []string, fuel int) answer {
	o, steps, uses := natural.Eval(e, input, fuel)
	return answer{o, steps, uses}
}

// short is e's text, or how it begins.
func short(e api.Expr) string {
	text := core.Text(e)
	return text[:min(len(text), 400)]
}

// checkFuel holds what Eval answers with less fuel, and with more.
func checkFuel(t *testing.T, e api.Expr, input []string, want answer, fuels ...int) {
	t.Helper()
	for _, fuel := range fuels {
		got := eval(e, input, fuel)
		if fuel >= want.steps {
			if got != want {
				t.Fatalf("P1002: Eval(%s) with fuel %d is %v, not %v", short(e), fuel, got, want)
			}
		} else if got.o != outcome("! fuel") || got.steps != fuel+1 || got.uses > want.uses {
			t.Fatalf("P1001: Eval(%s) with fuel %d is %v, with enough %v", short(e), fuel, got, want)
		}
	}
}

// check holds e against what it must come to, with each fuel that is less.
func check(t *testing.T, e api.Expr, input []string, want string, steps, uses int) {
	t.Helper()
	got := eval(e, input, maxFuel)
	if got != (answer{outcome(want), steps, uses}) {
		t.Errorf("P1001, P1002: Eval(%s) is %v, not %q in %d steps with %d uses", short(e), got, want, steps, uses)
	}
	for fuel := range min(got.steps+2, 200) {
		checkFuel(t, e, input, got, fuel)
	}
	checkFuel(t, e, input, got, got.steps-1, got.steps, min(got.steps+1, maxFuel))
}

// row is a term, what it comes to, and how many steps and uses that takes.
type row struct {
	term, want  string
	steps, uses int
}

func checkRows(t *testing.T, rows []row) {
	t.Helper()
	for _, r := range rows {
		check(t, term(t, r.term), seven(), r.want, r.steps, r.uses)
	}
}

func TestConstants(t *testing.T) {
	checkRows(t, []row{
		{"5", "5", 1, 0}, {"0", "0", 1, 0}, {"-12", "-12", 1, 0}, {"#t", "#t", 1, 0}, {"#f", "#f", 1, 0},
		{"()", "()", 1, 0}, {"'a", "a", 1, 0}, {"'#f", "#f", 1, 0}, {"'5", "5", 1, 0},
	})
	check(t, symbol("( #<function>\n'é"), nil, "( #<function>\n'é", 1, 0)
}

func TestNames(t *testing.T) {
	checkRows(t, []row{
		{"input", "(7 -3)", 1, 0},
		{"(let ((x 5)) x)", "5", 3, 1},
		{"(let ((x 5)) (+ x x))", "10", 5, 1},
		{"(let ((x (+ 1 2))) (+ x x))", "6", 7, 1},
		{"(let ((x y) (y 5)) x)", "5", 4, 2},
		{"(let ((x 5) (y x)) (+ x y))", "10", 6, 2},
		{"(let ((x (error 1))) 5)", "5", 2, 0},
		{"(let ((x input)) x)", "(7 -3)", 3, 1},
		{"(let ((input 1)) input)", "1", 3, 1},
		{"((lambda (input) input) 1)", "1", 3, 0},
	})
}

func TestLoops(t *testing.T) {
	checkRows(t, []row{
		{"(let ((x x)) x)", "! loop", 3, 1},
		{"(let ((x y) (y x)) x)", "! loop", 4, 2},
		{"(let ((x (+ 1 x))) x)", "! loop", 5, 1},
		{"(let ((x (x 1))) x)", "! loop", 4, 1},
		{"(let ((x (if x 1 2))) (cons 1 x))", "! loop", 4, 1},
		{"(let ((x (car (cons x 1)))) x)", "! loop", 4, 1},
		{"(let ((x ((lambda (y) y) x))) x)", "! loop", 5, 1},
		{"(let ((x (cons 1 (car (cdr x))))) x)", "! loop", 6, 2},
		{"(let ((x (cons 1 x))) (car (cdr (cdr x))))", "1", 6, 1},
		{"(let ((x (lambda (y) x))) (x 1))", "#<function>", 5, 1},
		{"(let ((x x)) (cons 1 ((lambda (y) 2) x)))", "(1 . 2)", 5, 1},
	})
}

func TestFunctions(t *testing.T) {
	checkRows(t, []row{
		{"(lambda (x) (error 1))", "#<function>", 1, 0},
		{"((lambda (x) x) 5)", "5", 3, 0},
		// fewer than names, as many, more
		{"((lambda (x y) (error 1)) 1)", "#<function>", 2, 0},
		{"(((lambda (x y) (- x y)) 5) 2)", "3", 6, 0},
		{"((((lambda (x y z) (- x (- y z))) 5) 2) 1)", "4", 9, 0},
		{"(((lambda (x y z) (- x (- y z))) 5) 2 1)", "4", 8, 0},
		{"((lambda (x y z) (- x (- y z))) 5 2 1)", "4", 7, 0},
		{"((lambda (x) x) (lambda (y) y) 7)", "7", 5, 1},
		{"((lambda (x y) (lambda (z) (lambda (w) (- (- x y) (- z w))))) 1 2 3 4)", "0", 11, 0},
		{"((lambda (x) (lambda (y z) (- x (- y z)))) 1 2)", "#<function>", 3, 0},
		// what has been given to one is not given to another
		{"(let ((f (lambda (x y) (- x y)))) (let ((g (f 10))) (cons (g 1) (g 2))))", "(9 . 8)", 16, 4},
		{"(let ((f (lambda (x y z) (- x (- y z))))) (let ((g (f 10))) (let ((h (g 1))) (cons (h 1) (cons (g 5 1) (h 2))))))", "(10 6 . 11)", 31, 7},
		{"(let ((f (lambda (a b c d e) (- a (- b (- c (- d e))))))) (let ((g (((f 1) 2) 3))) (let ((h (g 10)) (i (g 20))) (cons (h 0) (cons (i 0) (h 1))))))", "(-8 -18 . -7)", 47, 8},
		// no function
		{"(5 1)", "! apply", 2, 0}, {"(#f 1)", "! apply", 2, 0}, {"(() 1)", "! apply", 2, 0}, {"('a 1)", "! apply", 2, 0}, {"((cons 1 2) 1)", "! apply", 2, 0}, {"(input 1)", "! apply", 2, 0},
		{"(5 (error 1))", "! apply", 2, 0}, {"((error 1) 2)", "! error 1", 3, 0}, {"((lambda (x) x) 1 2)", "! apply", 3, 0}, {"((lambda (x) (error x)) 1 2)", "! error 1", 4, 0},
	})
}

func TestArguments(t *testing.T) {
	checkRows(t, []row{
		// a constant is a value already, a name has its cell already
		{"((lambda (x) (+ x x)) 2)", "4", 5, 0},
		{"((lambda (x) x) #t)", "#t", 3, 0}, {"((lambda (x) x) ())", "()", 3, 0}, {"((lambda (x) x) 'a)", "a", 3, 0},
		{"(let ((y (+ 1 2))) ((lambda (x) (+ x y)) y))", "6", 9, 1},
		{"((lambda (x) x) input)", "(7 -3)", 3, 0},
		// another one is reckoned once, if it is asked for
		{"((lambda (x) (+ x x)) (+ 1 2))", "6", 8, 1},
		{"((lambda (x y) y) (error 1) 2)", "2", 3, 0},
		{"((lambda (x) (x 1)) (lambda (y) y))", "1", 6, 1},
		{"((lambda (x) (x x)) (lambda (y) y))", "#<function>", 6, 1},
		{"((lambda (x) (seq x x)) (cons 1 2))", "(1 . 2)", 6, 1},
	})
}

func TestScopes(t *testing.T) {
	checkRows(t, []row{
		{"(let ((x 1)) (let ((f (lambda (y) (+ x y)))) (let ((x 10)) (f 5))))", "6", 10, 2},
		{"((lambda (x) ((lambda (x) x) 2)) 1)", "2", 5, 0},
		{"((lambda (x) (+ ((lambda (x) x) 2) x)) 1)", "3", 7, 0},
		{"(let ((x 1)) (+ (let ((x 2)) x) x))", "3", 7, 2},
		{"(let ((x 1)) (let ((x (lambda (y) x))) (x 5)))", "#<function>", 6, 1},
		{"((lambda (x y) (let ((x y) (y x)) (cons 1 2))) 3 4)", "(1 . 2)", 4, 0},
		{"((lambda (x y) (let ((y x)) (- y 1))) 3 4)", "2", 7, 1},
		{"((lambda (f x) (f (- x 1))) (lambda (y) (+ y y)) 5)", "8", 11, 2},
		{"(let ((a (+ b 1)) (b (+ c 1)) (c 1)) a)", "3", 9, 3},
	})
}

func TestChoices(t *testing.T) {
	checkRows(t, []row{
		{"(if #t 1 (error 2))", "1", 3, 0}, {"(if #f (error 1) 2)", "2", 3, 0},
		{"(if () 1 2)", "1", 3, 0}, {"(if 0 1 2)", "1", 3, 0}, {"(if '#f 1 2)", "1", 3, 0}, {"(if (cons #f #f) 1 2)", "1", 3, 0}, {"(if (lambda (x) #f) 1 2)", "1", 3, 0}, {"(if input 1 2)", "1", 3, 0},
		{"(if (< 2 1) 1 2)", "2", 5, 0}, {"(if (error 1) 2 3)", "! error 1", 3, 0}, {"(if #f 1 (if #t (+ 1 1) 3))", "2", 7, 0},
	})
}
