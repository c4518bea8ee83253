package natural_test

import (
	"testing"

	"thunk/api"
	"thunk/expand"
	"thunk/read"
)

// programs are texts, and what they come to.
func programs() [][2]string {
	return [][2]string{
		{"(define (f n) (if (= n 0) 1 (* n (f (- n 1))))) (f 30)", "265252859812191058636308480000000"},
		{"(define (f n) (if (= n 0) 1 (* n (f (- n 1))))) (f 200)", "! limit"},
		{"(define (fib n) (if (< n 2) n (+ (fib (- n 1)) (fib (- n 2))))) (fib 15)", "610"},
		{"(define (zip f a b) (cons (f (car a) (car b)) (zip f (cdr a) (cdr b)))) (define fibs (cons 0 (cons 1 (zip (lambda (a b) (+ a b)) fibs (cdr fibs))))) (define (nth n l) (if (= n 0) (car l) (nth (- n 1) (cdr l)))) (nth 300 fibs)", "222232244629420445529739893461909967206666939096499764990979600"},
		{"(define (even n) (if (= n 0) #t (odd (- n 1)))) (define (odd n) (if (= n 0) #f (even (- n 1)))) (cons (even 1001) (odd 1001))", "(#f . #t)"},
		{"(define (take n l) (if (= n 0) '() (cons (car l) (take (- n 1) (cdr l))))) (define (filter p l) (if (p (car l)) (cons (car l) (filter p (cdr l))) (filter p (cdr l)))) (define (from n) (cons n (from (+ n 1)))) (define (sieve l) (cons (car l) (sieve (filter (lambda (x) (not (= 0 (remainder x (car l))))) (cdr l))))) (take 12 (sieve (from 2)))", "(2 3 5 7 11 13 17 19 23 29 31 37)"},
		{"(((lambda (f) ((lambda (x) (f (x x))) (lambda (x) (f (x x))))) (lambda (fact) (lambda (n) (if (= n 0) 1 (* n (fact (- n 1))))))) 5)", "120"},
		{"(define (map f l) (if (null? l) l (cons (f (car l)) (map f (cdr l))))) (map (+ 1) input)", "(8 -2)"},
		{"(define (map f l) (if (null? l) l (cons (f (car l)) (map f (cdr l))))) (map (lambda (x) (* x x)) input)", "(49 9)"},
		{"(define (fold f z l) (if (null? l) z (f (car l) (fold f z (cdr l))))) (cons (fold + 0 input) (fold cons '(end) input))", "(4 7 -3 end)"},
		{"(define (two f x) (f (f x))) (two two (lambda (x) (* x x)) 2)", "65536"},
		{"(define-syntax or (syntax-rules () ((_) #f) ((_ a) a) ((_ a b ...) (let ((t a)) (if t t (or b ...)))))) (let ((t 5)) (or #f t (error 'late)))", "5"},
		{"'(a (b . c) #t () 5)", "(a (b . c) #t () 5)"},
		{"(letrec ((x (cons 1 y)) (y (cons 2 x))) (car (cdr (cdr (cdr x)))))", "2"},
		{"(define (loop n) (loop (+ n 1))) (loop 0)", "! fuel"},
		{"(define (deep n) (+ 1 (deep n))) (deep 0)", "! fuel"},
		{"(define x (+ x 1)) (cons 1 x)", "! loop"},
		{"(define (f x y) (+ x y)) (define (g x) (f x)) ((g 1) 2)", "3"},
		{"(define l (cons 1 (cons (error 'second) '()))) (seq (car l) l)", "! error second"},
		{"(define (f x) (g x)) (define (g x) (x x)) (f 5)", "! apply"},
		{"(quotient (car input) (+ 3 (car (cdr input))))", "! zero"},
		{"(if (eq? 'a (car '(a b))) car cdr)", "#<function>"},
	}
}

// TestPrograms: texts as they are read and made terms of, as they stand, and with names for arguments, and lifted (T3).
func TestPrograms(t *testing.T) {
	for _, c := range programs() {
		l, _, _ := read.Read(c[0])
		e, _, err := expand.Expand(l)
		if err != api.OK {
			t.Fatalf("%s: %v", c[0], err)
		}
		got := checkSame(t, e, seven(), maxFuel)
		if got.o != outcome(c[1]) {
			t.Errorf("P1002: %s comes to %v, not %q", c[0], got, c[1])
		}
		if want := slowEval(e, seven(), maxFuel, false); got != want {
			t.Errorf("P1002: %s comes to %v, not %v", c[0], got, want)
		}
	}
}

// TestOnce: what is named is reckoned once, however often it is asked for (T1): doubled again and again, each by the one before.
func TestOnce(t *testing.T) {
	const doubled = 60
	e := variable(numbered("x", doubled))
	for i := doubled; i > 0; i-- {
		before := variable(numbered("x", i-1))
		e = let(numbered("x", i), prim("+", before, before), e)
	}
	check(t, let("x0", integer("1"), e), nil, "1152921504606846976", 2+1+4*doubled, doubled+1)
}
