package machine_test

import (
	"testing"

	"thunk/api"
	"thunk/machine"
)

// TestEarly: what is printed late is printed early (T4), and no thunk is made of what must be reckoned; of what need not be one is made, and it is not entered.
func TestEarly(t *testing.T) {
	for _, c := range []struct {
		s, want         string
		thunks, entered int
	}{
		{"(let ((x (+ 1 2))) (* x x))", "9", 0, 0}, {"(let ((x (+ 1 2))) (cons x x))", "(3 . 3)", 1, 1}, {"(let ((x (error 1))) (if (car input) 2 x))", "2", 1, 0}, {"(let ((x (+ 1 2)) (y (error 1))) (if x 2 y))", "2", 1, 0},
		{"(let ((a (+ 1 2)) (b (* a a)) (c (- b a))) (+ c 1))", "7", 0, 0}, {"(let ((c (- b a)) (b (* a a)) (a (+ 1 2))) (+ c 1))", "7", 2, 2}, {"(let ((a (+ 1 b)) (b (if c 1 a)) (c (not #f))) (+ a b))", "3", 2, 2}, {"(let ((x (cdr input)) (y (car x))) (- y 1))", "-4", 0, 0},
		{"f x y z = (if x y z)|(let ((a (+ 1 2)) (b (* a a)) (c (error 1))) (f a b c))", "9", 2, 1}, {"f x = (g x)|g y = (+ y 1)|(let ((a (+ 1 2))) (f a))", "4", 0, 0}, {"f x y = (+ x y)|(let ((a (error 1)) (g (f a))) (pair? g))", "#f", 2, 1},
		{"f n l = (if (= n 0) l (let ((m (- n 1)) (k (* l 2))) (f m k)))|(f 10 1)", "1024", 0, 0}, {"f n l = (if (= n 0) l (let ((m (- n 1)) (k (cons n l))) (f m k)))|(f 3 ())", "(1 2 3)", 0, 0}, {"f n x = (if (= n 0) 5 (let ((m (- n 1)) (y (error n))) (f m y)))|(f 10 1)", "5", 10, 0},
		{"(let ((x (let ((y (+ 1 2))) (+ y y)))) (+ x 1))", "7", 0, 0}, {"(let ((x input)) (let ((y x)) (car y)))", "7", 0, 0}, {"f x = x|(let ((g f) (y (g 5))) (g y))", "5", 1, 1}, {"(let ((x (cons 1 x)) (y (car x))) (+ y 1))", "2", 1, 1},
		// through lets within
		{"(let ((a (+ 1 2))) (let ((b (* a 2))) (let ((c (error 1))) (if b b c))))", "6", 1, 0}, {"(let ((a (+ 1 2)) (b (+ 3 4))) (let ((c (* a 2)) (d (* b 2))) (let ((e (+ c 1))) (if (< e 9) e d))))", "7", 2, 0}, {"(let ((a (+ 1 2)) (b (+ 3 4)) (c (+ 5 6))) (let ((x (let ((y (* a b))) (+ y c)))) (- x a)))", "29", 0, 0},
		{"(let ((a (+ 1 2))) (if (car input) a (let ((b 1)) (error b))))", "3", 0, 0}, {"(let ((a (+ 1 2))) (if (car input) 5 (let ((b 1)) (error b))))", "5", 1, 0}, {"(let ((a (+ 1 2))) (if (car input) 5 (let ((b 1)) (+ a b))))", "5", 1, 0}, {"(let ((a (+ 1 2))) (if (car input) (- a 1) (let ((b 1)) (+ a b))))", "2", 0, 0},
		{"f x = (+ x 1)|(let ((a (+ 1 2))) ((let ((g f)) g) a))", "4", 1, 1}, {"f x = (+ x 1)|(let ((a (+ 1 2))) ((let ((b (* a 2))) (if (< b 9) f b)) 5))", "6", 0, 0}, {"f x = (let ((y (* x 2))) (let ((z (error y))) (+ x y)))|(let ((a (+ 1 2))) (f a))", "9", 1, 0},
		{"(let ((x (+ 1 2))) (let ((y (+ x 1)) (x (* y 2))) (- y x)))", "! loop", 0, 0}, {"(let ((x (+ 1 x))) (* x 2))", "! loop", 0, 0}, {"(let ((a b) (b a)) (+ a 1))", "! loop", 0, 0}, {"(let ((a (error 1)) (b (error 2))) (+ a b))", "! error 1", 0, 0}, {"(let ((a (car 5))) (error a))", "! pair", 0, 0},
	} {
		n := meaningOf(program(t, c.s), seven())
		config := api.Config{Heap: 100000, Fuel: 100000, Early: true, Input: seven()}
		o, s := n.run(t, config)
		config.Early = false
		late, sLate := n.run(t, config)
		if late != outcome(c.want) || late.Kind == api.Printed && (o != late || s.Thunks != c.thunks || s.Entered != c.entered) {
			t.Errorf("T4: early %v, %d thunks, %d entered, late %v, %d thunks, not %s, %d, %d, of %s", o, s.Thunks, s.Entered, late, sLate.Thunks, c.want, c.thunks, c.entered, c.s)
		}
	}
}

// TestEarlyWords: what would wait in ever more words is reckoned at once, though what it asks for is of the same let.
func TestEarlyWords(t *testing.T) {
	for _, s := range []string{
		"sum n s = (if (= n 0) s (let ((m (- n 1)) (k (+ s n))) (sum m k)))|(sum 5000 0)",
		"sum n s = (if (= n 0) s (let ((k (+ s l)) (l (if #t n k)) (m (- n 1))) (sum m k)))|(sum 5000 0)",
		"sum n s = (if (= n 0) s (let ((k (+ s l)) (l (if #t n k)) (p (cons n m)) (m (- n 1))) (sum m k)))|(sum 5000 0)",
		"sum n s u = (if (= n 0) (- s u) (let ((k (+ s l)) (j (- u l)) (l (quotient n 2)) (m (- n 1))) (sum m k j)))|(let ((n 5000)) (sum n 2500 0))",
	} {
		n := meaningOf(program(t, s), nil)
		late, _ := n.run(t, api.Config{Heap: 1000, Fuel: 1000000})
		early, _ := n.run(t, api.Config{Heap: 1000, Fuel: 1000000, Early: true})
		if late != outcome("! heap") || early != outcome("12502500") {
			t.Errorf("T4: late %v, early %v, of %s", late, early, s)
		}
	}
}

// TestEarlySteps: what need not be reckoned takes no step more.
func TestEarlySteps(t *testing.T) {
	for _, s := range []string{"(let ((p (cons 1 2))) (car p))", "(let ((p (cons 1 p)) (n 5)) (+ n (car p)))", "(let ((a 1) (b #t) (c ()) (d 'd)) (seq a (seq b (seq c d))))"} {
		n := meaningOf(program(t, s), nil)
		_, late := n.run(t, api.Config{Heap: 1000, Fuel: 1000})
		if _, early := n.run(t, api.Config{Heap: 1000, Fuel: 1000, Early: true}); early != late {
			t.Errorf("T4: early %+v, late %+v, of %s", early, late, s)
		}
	}
}

// TestEarlyMany: of very many values that must be reckoned some are not reckoned early, and all is printed the same.
func TestEarlyMany(t *testing.T) {
	for _, many := range []int{1, 2, 99, 100, 101, 200, 1000} {
		e := api.Expr{Kind: api.ELet, Names: numberedNames("x", many)}
		for range many {
			e.A = append(e.A, prim("+", integer("1"), prim("car", variable("input"))))
		}
		e.A = append(e.A, sum(variables(e.Names)...))
		p := api.Prog{Main: e}
		n := meaningOf(p, seven())
		o, s := n.run(t, api.Config{Heap: maxHeap, Fuel: maxFuel, Early: true, Input: seven()})
		if o != n.o || o.Kind != api.Printed || s.Thunks > max(0, many-50) {
			t.Errorf("T4: %v, not %v, %d thunks for %d values", o, n.o, s.Thunks, many)
		}
	}
	if o, _ := machine.Run(api.Prog{Main: integer("5")}, api.Config{Heap: 100, Fuel: 10, Early: true}); o != outcome("5") {
		t.Errorf("T4: %v", o)
	}
}
