package machine_test

import (
	"slices"
	"strings"
	"testing"

	"thunk/api"
	"thunk/lift"
	"thunk/norm"
)

// Functions that several texts use.
const (
	takeFrom = "(define (take n l) (if (= n 0) '() (cons (car l) (take (- n 1) (cdr l))))) (define (from n) (cons n (from (+ n 1)))) "
	mapFold  = "(define (map f l) (if (null? l) l (cons (f (car l)) (map f (cdr l))))) (define (fold f z l) (if (null? l) z (f (car l) (fold f z (cdr l))))) "
	sumRange = "(define (range a b) (if (= a b) '() (cons a (range (+ a 1) b)))) (define (sum l n) (if (null? l) n (seq n (sum (cdr l) (+ n (car l)))))) "
	factor   = "(define (f n) (if (= n 0) 1 (* n (f (- n 1))))) "
	evenOdd  = "(define (even n) (if (= n 0) #t (odd (- n 1)))) (define (odd n) (if (= n 0) #f (even (- n 1)))) "
)

// programs are texts, and what they come to.
func programs() [][2]string {
	return [][2]string{
		{factor + "(f 30)", "265252859812191058636308480000000"}, {factor + "(f 200)", "! limit"},
		{"(define (fib n) (if (< n 2) n (+ (fib (- n 1)) (fib (- n 2))))) (fib 12)", "144"},
		{"(define (zip f a b) (cons (f (car a) (car b)) (zip f (cdr a) (cdr b)))) (define fibs (cons 0 (cons 1 (zip (lambda (a b) (+ a b)) fibs (cdr fibs))))) (define (nth n l) (if (= n 0) (car l) (nth (- n 1) (cdr l)))) (nth 300 fibs)", "222232244629420445529739893461909967206666939096499764990979600"},
		{evenOdd + "(cons (even 101) (odd 101))", "(#f . #t)"},
		{takeFrom + "(define (filter p l) (if (p (car l)) (cons (car l) (filter p (cdr l))) (filter p (cdr l)))) (define (sieve l) (cons (car l) (sieve (filter (lambda (x) (not (= 0 (remainder x (car l))))) (cdr l))))) (take 12 (sieve (from 2)))", "(2 3 5 7 11 13 17 19 23 29 31 37)"},
		{"(((lambda (f) ((lambda (x) (f (x x))) (lambda (x) (f (x x))))) (lambda (fact) (lambda (n) (if (= n 0) 1 (* n (fact (- n 1))))))) 5)", "120"},
		{mapFold + "(map (+ 1) input)", "(8 -2)"}, {mapFold + "(map (lambda (x) (* x x)) input)", "(49 9)"}, {mapFold + "(cons (fold + 0 input) (fold cons '(end) input))", "(4 7 -3 end)"}, {mapFold + "((fold (lambda (f g) (lambda (x) (f (g x)))) (lambda (x) x) (map + input)) 1)", "5"},
		{"(define (two f x) (f (f x))) (two two (lambda (x) (* x x)) 2)", "65536"},
		{"(define-syntax or (syntax-rules () ((_) #f) ((_ a) a) ((_ a b ...) (let ((t a)) (if t t (or b ...)))))) (let ((t 5)) (or #f t (error 'late)))", "5"},
		{"'(a (b . c) #t () 5)", "(a (b . c) #t () 5)"}, {"(letrec ((x (cons 1 y)) (y (cons 2 x))) (car (cdr (cdr (cdr x)))))", "2"}, {"(define x (+ x 1)) (cons 1 x)", "! loop"},
		{"(define (f x y) (+ x y)) (define (g x) (f x)) ((g 1) 2)", "3"}, {"(define l (cons 1 (cons (error 'second) '()))) (seq (car l) l)", "! error second"}, {"(define (f x) (g x)) (define (g x) (x x)) (f 5)", "! apply"},
		{"(quotient (car input) (+ 3 (car (cdr input))))", "! zero"}, {"(if (eq? 'a (car '(a b))) car cdr)", "#<function>"},
		{takeFrom + "(letrec ((l (take 5 (from 1))) (x (seq l x))) (cons (car (cdr l)) l))", "(2 1 2 3 4 5)"}, {sumRange + "(sum (range 1 50) 0)", "1225"},
	}
}

func TestPrograms(t *testing.T) {
	for _, c := range programs() {
		check(t, compiled(t, c[0]), seven(), c[1])
	}
}

// number is a number's text of so many digits.
func number(m maker, digits int) string {
	s := m.pick("", "-") + m.pick("1", "9", "5")
	for range digits - 1 {
		s += m.pick("0", "0", "9", "3")
	}
	return s
}

// TestNumbers: of all lengths, as they stand, as they are read, and as they are reckoned.
func TestNumbers(t *testing.T) {
	m := newMaker(11, true)
	for digits := 1; digits <= api.MaxDigits; digits++ {
		x, y := number(m, digits), number(m, 1+m.Intn(digits))
		read := prim("car", variable("input"))
		parts := []api.Expr{integer(x), read, prim("+", integer(x), integer("0")), prim("-", integer("0"), integer(y))}
		for _, name := range []string{"+", "-", "*", "quotient", "remainder", "<", "=", "eq?"} {
			parts = append(parts, prim(name, integer(x), read), prim(name, integer(y), integer(x)))
		}
		for _, e := range parts {
			meaningOf(api.Prog{Main: e}, []string{y, x}).checkAll(t, []string{y, x})
		}
	}
}

// ones is a list of n ones, rest behind them.
func ones(n int, rest api.Expr) api.Expr {
	for range n {
		rest = prim("cons", integer("1"), rest)
	}
	return rest
}

// nested is () within n lists of one.
func nested(n int) api.Expr {
	e := api.Expr{Kind: api.ENil}
	for range n {
		e = prim("cons", e, api.Expr{Kind: api.ENil})
	}
	return e
}

// TestMaxText: texts of as many bytes as may be, and of more: `(1 1 .. 1` are 2000 bytes of 1000 ones. What stands behind the bound is not reckoned; what stands ahead is.
func TestMaxText(t *testing.T) {
	null, fault := api.Expr{Kind: api.ENil}, prim("error", integer("2"))
	row := func(n int) string { return "(" + strings.Repeat("1 ", n-1) + "1" }
	for _, c := range []struct {
		e    api.Expr
		want string
	}{
		{symbol(strings.Repeat("x", api.MaxText)), strings.Repeat("x", api.MaxText)}, {symbol(strings.Repeat("x", api.MaxText+1)), "! limit"}, {symbol(strings.Repeat("é", api.MaxText/2)), strings.Repeat("é", api.MaxText/2)}, {symbol(strings.Repeat("é", api.MaxText/2) + "x"), "! limit"},
		{ones(999, null), row(999) + ")"}, {prim("cons", integer("10"), ones(998, null)), "(10" + row(999)[2:] + ")"}, {ones(1000, null), "! limit"}, {ones(998, integer("2")), "! limit"}, {ones(997, integer("23")), row(997) + " . 23)"}, {ones(997, integer("234")), "! limit"},
		{ones(994, lambda(null, "x")), "! limit"}, {ones(992, lambda(null, "x")), row(992) + " . #<function>)"},
		{ones(999, fault), "! error 2"}, {ones(1000, fault), "! error 2"}, {ones(999, prim("cons", fault, null)), "! error 2"}, {ones(1000, prim("cons", fault, null)), "! limit"},
		{ones(998, prim("cons", symbol("ab"), prim("cons", fault, null))), "! error 2"}, {ones(998, prim("cons", symbol("abc"), prim("cons", fault, null))), "! limit"}, {ones(998, prim("cons", symbol("abcd"), fault)), "! limit"},
		{nested(999), strings.Repeat("(", 1000) + strings.Repeat(")", 1000)}, {nested(1000), "! limit"},
		{let("x", prim("cons", variable("x"), fault), variable("x")), "! limit"},
	} {
		n := meaningOf(lift.Lift(norm.Norm(c.e)), nil)
		o, _ := n.run(t, api.Config{Heap: maxHeap, Fuel: maxFuel})
		if n.o != outcome(c.want) || o != n.o {
			t.Errorf("P1301: %v, not %v, of\n%s", o, n.o, short(n.p))
		}
	}
}

// TestInput: numbers of all lengths, none to many. Of much that is read no more is laid out than is asked for.
func TestInput(t *testing.T) {
	long := strings.Repeat("9", api.MaxDigits)
	for _, c := range []struct {
		s    string
		read []string
		want string
	}{
		{"input", nil, "()"}, {"input", []string{}, "()"}, {"(null? input)", nil, "#t"}, {"(car input)", nil, "! pair"}, {"input", []string{"0", "-1", long, "-" + long}, "(0 -1 " + long + " -" + long + ")"},
		{"(+ (car input) 1)", []string{"-1"}, "0"}, {"(+ (car input) 1)", []string{long}, "! limit"}, {"(null? (cdr input))", []string{"1"}, "#t"}, {"(pair? (cdr input))", []string{"1", "2"}, "#t"},
	} {
		check(t, program(t, c.s), c.read, c.want)
	}
	many := slices.Repeat([]string{"1"}, 999)
	check(t, program(t, "input"), many, "("+strings.Repeat("1 ", 998)+"1)")
	check(t, program(t, "input"), append(many, "1"), "! limit")
	check(t, program(t, "input"), slices.Repeat(many, 500), "! limit")
	check(t, program(t, "(car (cdr input))"), slices.Repeat([]string{long}, 100000), long)
	check(t, program(t, "f l = (car l)|(let ((a (cdr input)) (b (cdr a))) (f b))"), slices.Repeat([]string{long}, 100000), long)
	check(t, program(t, "input"), slices.Repeat([]string{long}, 100000), "! limit")
}
