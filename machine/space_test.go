package machine_test

import (
	"slices"
	"strconv"
	"strings"
	"testing"

	"thunk/api"
	"thunk/machine"
)

// TestSpace: what goes on and on with little does so in few words, as all that is left behind a collection is what can still be asked for (T6): what waits, and what was read, keeps no more than it needs.
func TestSpace(t *testing.T) {
	const halves = "(define (break l) (if (null? l) (cons '() '()) (if (= 0 (remainder (car l) 1000)) (cons '() (cdr l)) (let ((p (break (cdr l)))) (cons (cons (car l) (car p)) (cdr p)))))) "
	for _, c := range []struct {
		s, want     string
		late, early int // words that do
	}{
		{"(define (loop n a) (if (= n 0) a (loop (- n 1) a))) (loop 3000 0)", "0", 60, 60}, {"(define (loop n a) (if (= n 0) a (seq a (loop (- n 1) (+ a n))))) (loop 3000 0)", "4501500", 70, 60}, {"(define (loop n) (if (= n 0) 5 ((loop (- n 1)) 1))) (loop 0)", "5", 40, 40},
		{sumRange + "(sum (range 1 3000) 0)", "4498500", 100, 80}, {sumRange + "(let ((l (range 1 3000))) (+ 1 (sum l 0)))", "4498501", 110, 90}, {sumRange + "(- (sum (range 1 3000) 0) (sum (range 1 2000) 0))", "2499500", 130, 110}, {sumRange + "(if (< (sum (range 1 3000) 0) 0) 1 (sum (range 1 2000) 0))", "1999000", 130, 110},
		{sumRange + "(sum input 0)", "21000", 80, 70}, {sumRange + "(let ((l input)) (- (sum l 0) 1))", "20999", 80, 70},
		{evenOdd + "(even 3000)", "#t", 60, 40}, {"(define (f n g) (if (= n 0) (g 1) (f (- n 1) (lambda (x) (+ x n))))) (f 3000 car)", "2", 100, 80},
		// a thunk keeps nothing of what it is of, while it is reckoned
		{sumRange + "(define (go k l) (let ((t (sum l k))) (+ 1 t))) (go 0 (range 1 3000))", "4498501", 120, 100},
		// a pair whose parts are asked for one behind the other: what has gone from the first is not kept for the second
		{sumRange + halves + "(let ((p (break (range 1 4000)))) (let ((a (car p)) (b (cdr p))) (+ (sum a 0) (sum b 0))))", "7997000", 170, 30000},
		{takeFrom + "(define (nth n l) (if (= n 0) 'end (nth (- n 1) (cdr l)))) (nth 2000 (from 1))", "end", 40000, 40000},
	} {
		p, input := compiled(t, c.s), slices.Repeat([]string{"7"}, 3000)
		for _, early := range []bool{false, true} {
			words := c.late
			if early {
				words = c.early
			}
			o, s := machine.Run(p, api.Config{Heap: words, Fuel: maxFuel, Early: early, Input: input})
			if o != outcome(c.want) || s.Words > words {
				t.Errorf("T5, T6: early: %v, with %d words: %v, of %s", early, words, o, c.s)
			}
		}
	}
}

// TestOnce: each constant, and each number that is read, is laid once, however often it is asked for.
func TestOnce(t *testing.T) {
	var long []string
	for i := range 100 {
		long = append(long, strconv.Itoa(i+100)+strings.Repeat("0", 190))
	}
	names := numberedNames("x", len(long))
	again := []api.Expr{variable("f")}
	for _, text := range long {
		again = append(again, integer(text))
	}
	reading := "f l n = (if (= n 0) (car l) (seq (car l) (let ((m (- n 1))) (f l m))))|(let ((l input)) (f l 1000))"
	for _, c := range []struct {
		p    api.Prog
		want string
		most int
	}{
		{api.Prog{Sups: []api.Sup{sup("f", app(again...), names...)}, Main: app(again...)}, "! fuel", 2000}, {program(t, reading), long[0], 30000},
	} {
		o, s := machine.Run(c.p, api.Config{Heap: maxHeap, Fuel: 10000, Input: long})
		if o != outcome(c.want) || s.Words > c.most {
			t.Errorf("T1: %v with %d words, not %d, of %s", o, s.Words, c.most, short(c.p))
		}
	}
}

// TestMuchKept: what must be kept is, however often it is collected.
func TestMuchKept(t *testing.T) {
	const tree = "(define (tree n) (if (= n 0) '() (cons (tree (- n 1)) (tree (- n 1))))) (define (all t) (if (null? t) 1 (+ (all (car t)) (all (cdr t))))) (define (loop t n) (if (= n 0) 0 (+ (- (all (tree 5)) 32) (loop t (- n 1))))) "
	p := compiled(t, tree+"(let ((t (tree 9))) (seq (all t) (+ (loop t 50) (all t))))")
	for _, early := range []bool{false, true} {
		for _, words := range []int{4000, 6000, 20000, maxHeap} {
			o, s := machine.Run(p, api.Config{Heap: words, Fuel: maxFuel, Early: early})
			if o != outcome("512") && (o != outcome("! heap") || words > 6000) {
				t.Errorf("T5: with %d words: %v, %+v", words, o, s)
			}
		}
	}
}
