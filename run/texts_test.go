package run_test

import (
	"strings"
	"testing"

	"thunk/api"
)

// What several texts define.
const (
	takeFrom = "(define (take n l) (if (= n 0) '() (cons (car l) (take (- n 1) (cdr l))))) (define (from n) (cons n (from (+ n 1)))) "
	mapFold  = "(define (map f l) (if (null? l) l (cons (f (car l)) (map f (cdr l))))) (define (fold f z l) (if (null? l) z (f (car l) (fold f z (cdr l))))) "
	forms    = `; forms that are brought by rules
(define-syntax or (syntax-rules () ((_) #f) ((_ a) a) ((_ a b ...) (let ((t a)) (if t t (or b ...))))))
(define-syntax and (syntax-rules () ((_) #t) ((_ a) a) ((_ a b ...) (if a (and b ...) #f))))
(define-syntax let* (syntax-rules () ((_ () e) e) ((_ ((x v) r ...) e) (let ((x v)) (let* (r ...) e)))))
(define-syntax cond (syntax-rules (else) ((_ (else e)) e) ((_ (c e) r ...) (if c e (cond r ...)))))
(define-syntax list (syntax-rules () ((_) '()) ((_ a b ...) (cons a (list b ...)))))
(define-syntax my-let (syntax-rules () ((_ ((n v) ...) e) ((lambda (n ...) e) v ...))))
(define-syntax twice (syntax-rules () ((_ f) (lambda (x) (f (f x))))))
(define-syntax swap (syntax-rules () ((_ x y e) (let ((t x)) (let ((x y)) (let ((y t)) e))))))
`
)

// outcome is the one that is written so: what is printed, or, behind !, how it ends.
func outcome(s string) api.Outcome {
	what, is := strings.CutPrefix(s, "! ")
	switch {
	case !is:
		return api.Outcome{Kind: api.Printed, Text: s}
	case what == "loop":
		return api.Outcome{Kind: api.Loop}
	case what == "limit":
		return api.Outcome{Kind: api.Limit}
	case what == "fuel":
		return api.Outcome{Kind: api.NoFuel}
	}
	return api.Outcome{Kind: api.Failed, Text: what}
}

// programs are texts, and what they come to, where 7 and -3 are read.
func programs() [][2]string {
	return [][2]string{
		{"5", "5"}, {"-007", "-7"}, {"#t", "#t"}, {"'()", "()"}, {"'a", "a"}, {"'(1 (2 x) #f . 3)", "(1 (2 x) #f . 3)"}, {"input", "(7 -3)"}, {"(cons 1 2)", "(1 . 2)"}, {"(cons 1 (cons 2 3))", "(1 2 . 3)"}, {"car", "#<function>"}, {"(lambda (x) x)", "#<function>"}, {"''a", "(quote a)"},
		{"; the last datum\n(define (f n) (if (= n 0) 1 (* n (f (- n 1))))) (f 30)", "265252859812191058636308480000000"}, {"(define (f n) (if (= n 0) 1 (* n (f (- n 1))))) (f 200)", "! limit"},
		{"(define (fib n) (if (< n 2) n (+ (fib (- n 1)) (fib (- n 2))))) (fib 12)", "144"},
		{"(define (zip f a b) (cons (f (car a) (car b)) (zip f (cdr a) (cdr b)))) (define fibs (cons 0 (cons 1 (zip + fibs (cdr fibs))))) (define (nth n l) (if (= n 0) (car l) (nth (- n 1) (cdr l)))) (nth 300 fibs)", "222232244629420445529739893461909967206666939096499764990979600"},
		{takeFrom + "(define (filter p l) (if (p (car l)) (cons (car l) (filter p (cdr l))) (filter p (cdr l)))) (define (sieve l) (cons (car l) (sieve (filter (lambda (x) (not (= 0 (remainder x (car l))))) (cdr l))))) (take 12 (sieve (from 2)))", "(2 3 5 7 11 13 17 19 23 29 31 37)"},
		{"(((lambda (f) ((lambda (x) (f (x x))) (lambda (x) (f (x x))))) (lambda (fact) (lambda (n) (if (= n 0) 1 (* n (fact (- n 1))))))) 5)", "120"},
		{mapFold + "(map (+ 1) input)", "(8 -2)"}, {mapFold + "(cons (fold + 0 input) (fold cons '(end) input))", "(4 7 -3 end)"}, {mapFold + "((fold (lambda (f g) (lambda (x) (f (g x)))) (lambda (x) x) (map + input)) 1)", "5"},
		{"(define (two f x) (f (f x))) (two two (lambda (x) (* x x)) 2)", "65536"},
		{forms + "(let ((t 5)) (or #f t (error 'late)))", "5"}, {forms + "(let ((if 1) (t 2)) (or #f t))", "2"}, {forms + "(let ((t 1) (u 2)) (swap t u (list t u)))", "(2 1)"}, {forms + "(and 1 (or) 3)", "#f"}, {forms + "(let* ((x 1) (x (+ x 1)) (y (* x x))) (list x y))", "(2 4)"},
		{forms + "(define (sign n) (cond ((< n 0) 'less) ((= n 0) 'none) (else 'more))) (list (sign (car input)) (sign 0) (sign (car (cdr input))))", "(more none less)"}, {forms + "(let ((else #f)) (cond (#f 2) (else 1)))", "1"}, {forms + "((twice (twice (lambda (x) (* x x)))) 2)", "65536"}, {forms + "(my-let ((x 1) (y (error 'never))) x)", "1"}, {forms + "(letrec-syntax ((even (syntax-rules () ((_) #t) ((_ x y ...) (odd y ...)))) (odd (syntax-rules () ((_) #f) ((_ x y ...) (even y ...))))) (list (even 1 1) (odd 1 1)))", "(#t #f)"},
		{"(define one 1) (define-syntax get (syntax-rules () ((_) one))) (let ((one 2)) (cons one (get)))", "(2 . 1)"}, {"(let ((x 1)) (let-syntax ((get (syntax-rules () ((_) x)))) (let ((x 2)) (cons (get) x))))", "(1 . 2)"},
		{"(letrec ((x (cons 1 y)) (y (cons 2 x))) (car (cdr (cdr (cdr x)))))", "2"}, {"(letrec ((x (cons 1 x))) x)", "! limit"}, {takeFrom + "(letrec ((l (take 5 (from 1))) (x (seq l x))) (cons (car (cdr l)) l))", "(2 1 2 3 4 5)"},
		{"(define x (+ x 1)) (cons 1 x)", "! loop"}, {"(letrec ((x y) (y x)) x)", "! loop"}, {"(letrec ((p (cons 1 (car q))) (q (cons (cdr p) 2))) p)", "! loop"},
		{"(define l (cons 1 (cons (error 'second) '()))) (seq (car l) l)", "! error second"}, {"(error 5)", "! error 5"}, {"(error input)", "! error"}, {"(if (error #f) 1 2)", "! error #f"}, {"(let ((x (error 'never))) 1)", "1"}, {"(seq (error 'first) (error 'second))", "! error first"},
		{"(define (f x) (g x)) (define (g x) (x x)) (f 5)", "! apply"}, {"(5 (error 'never))", "! apply"}, {"(quotient (car input) (+ 3 (car (cdr input))))", "! zero"}, {"(remainder 1 0)", "! zero"}, {"(+ 1 'a)", "! number"}, {"(< #t 1)", "! number"}, {"(car (cdr '(1)))", "! pair"}, {"(cdr 5)", "! pair"},
		{"(quotient (car (cdr input)) 2)", "-1"}, {"(remainder (car (cdr input)) 2)", "-1"}, {"(cons (eq? 'a (car '(a b))) (eq? '() '(1)))", "(#t . #f)"}, {"(if '() 1 2)", "1"}, {"(cons (null? '()) (cons (pair? '()) (cons (not 0) (cons (integer? -1) (symbol? 'a)))))", "(#t #f #f #t . #t)"},
		{"(define (loop n) (loop (+ n 1))) (loop 0)", "! fuel"}, {"((lambda (x) (x x)) (lambda (x) (x x)))", "! fuel"},
		{"(define (range a b) (if (= a b) '() (cons a (range (+ a 1) b)))) (define (sum l n) (if (null? l) n (seq n (sum (cdr l) (+ n (car l)))))) (sum (range 1 300) 0)", "44850"},
		{"(* " + strings.Repeat("9", 100) + " " + strings.Repeat("9", 100) + ")", strings.Repeat("9", 99) + "8" + strings.Repeat("0", 99) + "1"}, {"(* " + strings.Repeat("9", 101) + " " + strings.Repeat("9", 100) + ")", "! limit"},
	}
}

// TestPrograms: T1, T4, T5: what they come to, with much of all; as it is told collected at no step, at each, and, early, the same where anything is printed.
func TestPrograms(t *testing.T) {
	for _, c := range programs() {
		n := meaningOf(t, c[0], []string{"7", "-3"})
		if n.o != outcome(c[1]) {
			t.Errorf("T1: it means %v, not %s:\n%s", n.o, c[1], c[0])
			continue
		}
		config := enough("7", "-3")
		if n.o.Kind == api.NoFuel {
			config.Fuel = 20000
		}
		for _, gc := range [][]int{nil, upTo(300), {1, 10, 100, 1000, -1, 0, 1}} {
			config.Gc, config.Early = gc, false
			if o := n.run(t, config); o != n.o {
				t.Errorf("T1, T5: it comes to %v, not %v:\n%s", o, n.o, c[0])
			}
			config.Early = true
			if o := n.run(t, config); n.o.Kind == api.Printed && o != n.o {
				t.Errorf("T4: early it comes to %v, not %v:\n%s", o, n.o, c[0])
			}
		}
	}
}

// TestShort: with ever less fuel, and ever less words, it comes to the same, or tells that these were too few.
func TestShort(t *testing.T) {
	for _, c := range programs() {
		n := meaningOf(t, c[0], []string{"7", "-3"})
		if n.steps > 3000 {
			continue
		}
		for _, early := range []bool{false, true} {
			for less := n.enoughFuel(); less > 0; less = less * 2 / 3 {
				n.run(t, api.Config{Heap: maxHeap, Fuel: less - 1, Early: early, Input: []string{"7", "-3"}})
				n.run(t, api.Config{Heap: less - 1, Fuel: maxFuel / 100, Early: early, Input: []string{"7", "-3"}})
			}
		}
	}
}

// TestInput: what is read is the list of these numbers.
func TestInput(t *testing.T) {
	long := strings.Repeat("9", api.MaxDigits)
	for _, c := range []struct {
		src  string
		read []string
		want string
	}{
		{"input", nil, "()"}, {"input", []string{}, "()"}, {"input", []string{"0", "-1", long, "-" + long}, "(0 -1 " + long + " -" + long + ")"},
		{"(+ (car input) 1)", []string{long}, "! limit"}, {"(car (cdr input))", []string{"1"}, "! pair"}, {"(let ((input 5)) input)", []string{"1"}, "5"}, {"(define input 6) input", []string{"1"}, "6"}, {"(define (input x) x) (input 1)", nil, "1"}, {"(lambda (input) input)", nil, "#<function>"},
		{"(define-syntax get (syntax-rules () ((_) input))) (let ((input 5)) (cons input (get)))", []string{"1"}, "(5 1)"},
	} {
		if o := meaningOf(t, c.src, c.read).run(t, enough(c.read...)); o != outcome(c.want) {
			t.Errorf("P1402: Run is %v, not %s, of %s", o, c.want, c.src)
		}
	}
}
