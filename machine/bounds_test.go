package machine_test

import (
	"slices"
	"testing"

	"thunk/api"
	"thunk/machine"
)

// some are programs that come to something of each kind, and take their time.
func some(t *testing.T) (l []api.Prog) {
	t.Helper()
	for _, s := range []string{
		factor + "(f 12)", factor + "(f 'a)", factor + "(f 190)", evenOdd + "(even 20)", takeFrom + "(take 6 (from 1))", takeFrom + "(from 5)", sumRange + "(sum (range 1 20) 0)", mapFold + "(cons (fold + 0 input) (map (lambda (x) (* x x)) input))",
		"(define x (+ x 1)) (cons 1 x)", "(letrec ((x (cons 1 x))) x)", "(define (f x) (error (car x))) (cons 1 (f input))", "(define (f x y z) (cons z (f y z x))) (car (cdr (cdr (f 1 2 3))))", "(define (f x) (x x)) (cons (car input) (f input))", "(quotient 1 (+ 3 (car (cdr input))))",
		"(define (f a b) (lambda (c d) (cons a (cons b (cons c d))))) (define (g a b c) (f c b a c)) (g 1 2 3)", "(define (f a b) (lambda (c d) (if (= a 0) (cons b (cons c d)) (f (- a 1) c d b)))) (f 5 4 3 2)",
	} {
		l = append(l, compiled(t, s))
	}
	return l
}

// amounts are some from none up to those around enough.
func amounts(enough int) (l []int) {
	for n := 0; n < enough; n += 1 + n/30 {
		l = append(l, n)
	}
	return append(l, max(0, enough-1), enough, enough+1, enough+2)
}

// TestFuel: with fuel from none on there is too little, till there is enough; no more steps are made than may be.
func TestFuel(t *testing.T) {
	for _, p := range some(t) {
		n := meaningOf(p, seven())
		for _, early := range []bool{false, true} {
			c := api.Config{Heap: maxHeap, Fuel: maxFuel, Early: early, Input: seven()}
			most, all := n.run(t, c)
			if all.Steps < 2 || all.Steps > n.enoughFuel() {
				t.Errorf("P1301: %d steps, where it takes %d to find out what it means, of\n%s", all.Steps, n.steps, short(p))
			}
			for _, fuel := range amounts(all.Steps) {
				c.Fuel, c.Gc = fuel, nil
				if fuel%3 == 0 {
					c.Gc = []int{fuel - 1, fuel, fuel + 1}
				}
				want := most
				if fuel < all.Steps {
					want = outcome("! fuel")
				}
				if o, s := n.run(t, c); o != want || s.Steps != min(fuel, all.Steps) {
					t.Fatalf("P1301, P1302: with fuel %d: %v in %d steps, with much %v in %d, of\n%s", fuel, o, s.Steps, most, all.Steps, short(p))
				}
			}
		}
	}
}

// TestHeap: with few words there are too few, with more it comes to what it must, and how it is collected does not tell (T5).
func TestHeap(t *testing.T) {
	fewer := 0
	for _, p := range append(some(t), keeping(70, 35)) {
		n := meaningOf(p, seven())
		for _, early := range []bool{false, true} {
			most, all := machine.Run(p, api.Config{Heap: maxHeap, Fuel: maxFuel, Early: early, Input: seven()})
			for _, gc := range [][]int{nil, upTo(min(all.Steps, 300))} {
				for _, words := range amounts(all.Words) {
					c := api.Config{Heap: words, Fuel: maxFuel, Gc: gc, Early: early, Input: seven()}
					o, s := n.run(t, c)
					if o != most && o != outcome("! heap") || o == most && s.Steps != all.Steps {
						t.Fatalf("P1301, T5: with %d words: %v in %d steps, not %v in %d, of\n%s", words, o, s.Steps, most, all.Steps, short(p))
					}
					if words == 0 && o == most || words >= all.Words && o != most {
						t.Fatalf("P1301: with %d words: %v, where it used %d, of\n%s", words, o, all.Words, short(p))
					}
					if o == most && words < all.Words {
						fewer++
					}
				}
			}
		}
	}
	if fewer < 500 {
		t.Errorf("T5: only %d times in fewer words", fewer)
	}
}

// TestNoEnd: what never ends runs short of the one or the other, and ends.
func TestNoEnd(t *testing.T) {
	for _, c := range []struct {
		s    string
		fuel int
		want []string
	}{
		{"(define (loop n) (loop n)) (loop 0)", maxFuel, []string{"! fuel"}}, {"(define (loop n) (seq n (loop (+ n 1)))) (loop 0)", 300000, []string{"! fuel"}},
		{"(define (deep n) (+ 1 (deep n))) (deep 0)", 400000, []string{"! heap"}}, {"(define (deep n) (+ (deep n) 1)) (deep 0)", 400000, []string{"! heap"}}, {"(define (deep n) (car (deep n))) (deep 0)", 400000, []string{"! heap"}}, {"(define (deep n) ((deep n) 1)) (deep 0)", 400000, []string{"! heap"}},
		{"(define (deep n) (if (deep n) 1 2)) (deep 0)", 400000, []string{"! heap"}}, {"(define (deep n) (let ((x (deep n))) (+ x x))) (deep 0)", 400000, []string{"! heap"}}, {"(define (f x) (x x 1 2 3)) (f f)", 400000, []string{"! heap"}},
		{"(define (grow n) (cons n (grow n))) (define (last l) (last (cdr l))) (letrec ((l (grow 1))) (seq (last l) (car l)))", 400000, []string{"! heap", "! fuel"}}, {"(define (grow n) (cons n (grow n))) (define (last l) (if (null? l) l (last (cdr l)))) (last (grow 1))", 300000, []string{"! fuel"}},
		{"(define (loop n) (loop (+ n 1))) (loop 0)", 400000, []string{"! heap", "! fuel"}},
	} {
		p := compiled(t, c.s)
		n := meaningOf(p, nil)
		for _, early := range []bool{false, true} {
			for _, words := range []int{300000, 5000} {
				o, _ := n.run(t, api.Config{Heap: words, Fuel: c.fuel, Early: early})
				if !slices.ContainsFunc(c.want, func(s string) bool { return o == outcome(s) }) {
					t.Errorf("P1301: %s with %d words comes to %v, early: %v", c.s, words, o, early)
				}
			}
		}
	}
}
