package machine_test

import (
	"strings"
	"testing"

	"thunk/api"
	"thunk/machine"
)

// seven is what is read, mostly.
func seven() []string { return []string{"7", "-3"} }

// outcome is the one that is written so: `! ` stands ahead of what is not printed.
func outcome(s string) api.Outcome {
	switch why, is := strings.CutPrefix(s, "! "); {
	case !is:
		return api.Outcome{Kind: api.Printed, Text: s}
	case why == "loop":
		return api.Outcome{Kind: api.Loop}
	case why == "fuel":
		return api.Outcome{Kind: api.NoFuel}
	case why == "heap":
		return api.Outcome{Kind: api.NoHeap}
	case why == "limit":
		return api.Outcome{Kind: api.Limit}
	default:
		return api.Outcome{Kind: api.Failed, Text: why}
	}
}

// check holds p against what it must come to.
func check(t *testing.T, p api.Prog, input []string, want string) {
	t.Helper()
	n := meaningOf(p, input)
	if n.o != outcome(want) {
		t.Fatalf("%s means %v, not %q", short(p), n.o, want)
	}
	n.checkAll(t, input)
}

// checkAll holds that it comes to what it means, however it is run: with enough of all and no more, collected at no step and at each.
func (n meaning) checkAll(t *testing.T, input []string) {
	t.Helper()
	for _, early := range []bool{false, true} {
		for _, gc := range [][]int{nil, upTo(n.enoughFuel())} {
			c := api.Config{Heap: min(n.enoughHeap(), maxHeap), Fuel: n.enoughFuel(), Gc: gc, Early: early, Input: input}
			if o, s := n.run(t, c); o != n.o && (!early || n.o.Kind == api.Printed) {
				t.Errorf("P1301: early: %v, collected %d times: %v, not %v, of\n%s", early, s.Collections, o, n.o, short(n.p))
			}
		}
	}
}

// TestMain5 is the chapter's example.
func TestMain5(t *testing.T) {
	o, s := machine.Run(api.Prog{Main: integer("5")}, api.Config{Heap: 1000, Fuel: 1000})
	if o != outcome("5") || s.Steps < 1 || s.Words < 1 || s != (machine.Stats{Steps: s.Steps, Words: s.Words}) {
		t.Errorf("P1301, P1302: %v, %+v", o, s)
	}
}

// mains are programs without functions, and what they come to.
func mains() [][2]string {
	return [][2]string{
		{"5", "5"}, {"-12", "-12"}, {"0", "0"}, {"#t", "#t"}, {"#f", "#f"}, {"()", "()"}, {"'abc", "abc"}, {"'#f", "#f"}, {"'5", "5"},
		{"input", "(7 -3)"}, {"(car input)", "7"}, {"(car (cdr input))", "-3"}, {"(cdr (cdr input))", "()"}, {"(cdr (cdr (cdr input)))", "! pair"}, {"(cons input input)", "((7 -3) 7 -3)"},
		// numbers
		{"(+ 1 2)", "3"}, {"(- 1 2)", "-1"}, {"(* 3 (- 0 4))", "-12"}, {"(quotient -7 2)", "-3"}, {"(remainder -7 2)", "-1"}, {"(quotient 7 -2)", "-3"}, {"(remainder 7 -2)", "1"},
		{"(quotient 7 0)", "! zero"}, {"(remainder 7 0)", "! zero"}, {"(quotient 0 7)", "0"}, {"(remainder #t 0)", "! number"}, {"(quotient 0 ())", "! number"},
		{"(< 1 2)", "#t"}, {"(< 2 2)", "#f"}, {"(< 2 -2)", "#f"}, {"(= 2 2)", "#t"}, {"(= 2 3)", "#f"}, {"(= 'a 'a)", "! number"}, {"(< 1 'a)", "! number"},
		{"(+ 1 #t)", "! number"}, {"(+ 'a (error 1))", "! number"}, {"(+ (error 1) 'a)", "! error 1"}, {"(+ 1 (error 2))", "! error 2"}, {"(- (cons 1 2) 1)", "! number"}, {"(* () 1)", "! number"},
		// what asks
		{"(eq? 'a 'a)", "#t"}, {"(eq? 'a 'b)", "#f"}, {"(eq? 5 5)", "#t"}, {"(eq? 5 6)", "#f"}, {"(eq? '5 5)", "#f"}, {"(eq? '#t #t)", "#f"}, {"(eq? #t #t)", "#t"}, {"(eq? #t #f)", "#f"}, {"(eq? () ())", "#t"}, {"(eq? () #f)", "#f"},
		{"(eq? (cons 1 2) (cons 1 2))", "#f"}, {"(let ((p (cons 1 2))) (eq? p p))", "#f"}, {"(eq? (error 1) (error 2))", "! error 1"}, {"(eq? 1 (error 2))", "! error 2"}, {"(eq? input input)", "#f"},
		{"(null? ())", "#t"}, {"(null? #f)", "#f"}, {"(null? (cons 1 2))", "#f"}, {"(pair? (cons 1 2))", "#t"}, {"(pair? ())", "#f"}, {"(pair? input)", "#t"}, {"(null? (cdr (cdr input)))", "#t"},
		{"(integer? 5)", "#t"}, {"(integer? '5)", "#f"}, {"(integer? (cons 1 2))", "#f"}, {"(symbol? 'x)", "#t"}, {"(symbol? '#t)", "#t"}, {"(symbol? #t)", "#f"}, {"(symbol? ())", "#f"}, {"(symbol? 5)", "#f"},
		{"(not #f)", "#t"}, {"(not #t)", "#f"}, {"(not ())", "#f"}, {"(not 0)", "#f"}, {"(not (cons 1 2))", "#f"}, {"(not '#f)", "#f"},
		// errors
		{"(error 'x)", "! error x"}, {"(error ())", "! error ()"}, {"(error #f)", "! error #f"}, {"(error -5)", "! error -5"}, {"(error (cons 1 2))", "! error"}, {"(error (error 5))", "! error 5"}, {"(error (car ()))", "! pair"},
		{"(seq 1 2)", "2"}, {"(seq (error 1) 2)", "! error 1"}, {"(seq (cons 1 2) 3)", "3"}, {"(seq 1 (error 2))", "! error 2"},
		{"(car 5)", "! pair"}, {"(cdr ())", "! pair"}, {"(car (error 1))", "! error 1"}, {"(5 1)", "! apply"}, {"(input 1)", "! apply"}, {"((error 1) 2)", "! error 1"}, {"((if #t () 2) 1 2)", "! apply"},
		// choices
		{"(if #f 1 2)", "2"}, {"(if 0 1 2)", "1"}, {"(if () 1 (error 1))", "1"}, {"(if (cons 1 2) 1 2)", "1"}, {"(if '#f 1 2)", "1"}, {"(if (error 1) 2 3)", "! error 1"}, {"(if (if #f #t #f) 1 (if #t 2 3))", "2"}, {"(if (not (car input)) 1 (+ 1 (if (< 1 2) 2 3)))", "3"},
		// pairs
		{"(cons 1 2)", "(1 . 2)"}, {"(let ((l (cons 'a ()))) (cons 1 l))", "(1 a)"}, {"(let ((a (cons 1 ())) (b (cons () c)) (c (cons #t 5))) (cons a b))", "((1) () #t . 5)"}, {"(cons () ())", "(())"},
		{"(let ((x (error 1))) (cons 1 x))", "! error 1"}, {"(let ((x (error 1)) (y (cons 2 x))) (pair? y))", "#t"}, {"(let ((x (error 1)) (y (cons 2 x))) (car y))", "2"}, {"(let ((x (error 1)) (y (cons x 2))) (car y))", "! error 1"},
	}
}

// lets are programs that name things, and what they come to.
func lets() [][2]string {
	return [][2]string{
		{"(let ((x 5)) (+ x x))", "10"}, {"(let ((x (+ 1 2))) (* x x))", "9"}, {"(let ((x (error 1))) 2)", "2"}, {"(let ((x (error 1)) (y x)) (if #t 2 y))", "2"},
		{"(let ((x 1)) (let ((x 2)) x))", "2"}, {"(let ((x 1)) (let ((y x) (x 2)) (cons x y)))", "(2 . 2)"}, {"(let ((input 5)) input)", "5"}, {"(let ((x input) (input 5)) (cons x input))", "(5 . 5)"}, {"(let ((x input)) (let ((input x)) (car input)))", "7"},
		{"(let ((a b) (b c) (c (+ 1 2))) (cons a b))", "(3 . 3)"}, {"(let ((a (+ b 1)) (b (+ c 1)) (c 1)) (* a b))", "6"}, {"(let ((x (let ((y (+ 1 2))) (* y y)))) (- x 1))", "8"},
		{"(let ((a (car p)) (b (cdr p)) (p (cons 1 2))) (- a b))", "-1"}, {"(let ((a (car b)) (b (car c)) (c (car d)) (d (cons c d)) (e 5)) e)", "5"}, {"(let ((a (car input)) (b (cdr input)) (c (car b))) (+ a c))", "4"}, {"(let ((a (car 5))) a)", "! pair"}, {"(let ((a (cdr b)) (b (car input))) a)", "! pair"}, {"(let ((a (car b)) (b (error 'b))) a)", "! error b"},
		{"(let ((x (cons 1 x))) (car (cdr (cdr x))))", "1"}, {"(let ((a (cons 1 b)) (b (cons 2 a))) (car (cdr (cdr (cdr a)))))", "2"},
		{"(let ((f (error 1)) (x (seq (error 2) f))) x)", "! error 2"}, {"(let ((x (seq 1 y)) (y (seq 2 z)) (z (seq 3 4))) (+ x (+ y z)))", "12"}, {"(let ((x (if #f y 1)) (y (if #t x 2))) (+ x y))", "2"},
		// loops
		{"(let ((x x)) x)", "! loop"}, {"(let ((a b) (b a)) a)", "! loop"}, {"(let ((a b) (b c) (c b)) (+ 1 a))", "! loop"}, {"(let ((x x)) 5)", "5"}, {"(let ((x x)) (cons 1 x))", "! loop"}, {"(let ((x (+ 1 x))) x)", "! loop"}, {"(let ((x (seq x 1))) x)", "! loop"}, {"(let ((x (not y)) (y (not x))) x)", "! loop"},
		{"(let ((x (car x))) x)", "! loop"}, {"(let ((a (car p)) (p (cons a 1))) a)", "! loop"}, {"(let ((a (car p)) (p (cons b 1)) (b (cdr q)) (q (cons 1 a))) a)", "! loop"}, {"(let ((a (car p)) (p (seq a 1))) a)", "! loop"}, {"(let ((x (x 1))) x)", "! loop"}, {"(let ((x (if x 1 2))) (seq x 3))", "! loop"}, {"(let ((a (car p)) (p (cons x 1)) (x (seq a 5))) a)", "! loop"}, {"(let ((x (cons y 1)) (y (car x))) (pair? x))", "#t"},
		{"(let ((x (let ((y x)) y))) x)", "! loop"}, {"(let ((x (let ((y (+ x 1))) 2))) x)", "2"},
		// what never ends, when it is printed
		{"(let ((x (cons 1 x))) x)", "! limit"}, {"(let ((x (cons x 1))) x)", "! limit"}, {"(let ((x (cons x x))) x)", "! limit"}, {"(let ((x (cons 'abcdefg x)) (y (cons x y))) y)", "! limit"},
	}
}

// calls are programs with functions, and what they come to.
func calls() [][2]string {
	return [][2]string{
		{"f x = x|f", "#<function>"}, {"f x = x|(f 5)", "5"}, {"f x = 5|(let ((y (error 1))) (f y))", "5"}, {"f x y = (- x y)|(f 5 3)", "2"}, {"f x y = (- x y)|((f 5) 3)", "2"}, {"f x y = (- x y)|(f 5)", "#<function>"}, {"f x y = (- x y)|(let ((g (f 5)) (h (g 3))) (cons g h))", "(#<function> . 2)"},
		{"f x y = (- x y)|(let ((g (f 5)) (a (g 1)) (b (g 2))) (cons a b))", "(4 . 3)"}, {"f x y z = (- x (* y z))|(let ((g (f 9)) (h (g 2)) (a (h 1)) (b (h 2)) (c (g 3 3))) (let ((d (cons b c))) (cons a d)))", "(7 5 . 0)"},
		{"f x = g|g y = (* y y)|(f 1 5)", "25"}, {"f x = g|g y z = h|h w = w|(f 1 2 3 4)", "4"}, {"f x = x|(f f f f 5)", "5"}, {"f x = x|(f 1 2)", "! apply"}, {"f x = (x 1)|(f input)", "! apply"},
		{"f x = (+ x 1)|((if #t f 5) 1)", "2"}, {"f x = (+ x 1)|(let ((g f)) (g 1))", "2"}, {"f x = (+ x 1)|((let ((g f)) g) 1)", "2"}, {"f x = (+ x 1)|((seq 1 f) 1)", "2"}, {"f x = (+ x 1)|(let ((g (if (car input) f 1))) (g 1))", "2"},
		{"f x y = (+ x 1)|(eq? f f)", "#f"}, {"f x = x|(pair? f)", "#f"}, {"f x = x|(integer? f)", "#f"}, {"f x = x|(symbol? f)", "#f"}, {"f x = x|(null? f)", "#f"}, {"f x = x|(not f)", "#f"}, {"f x = x|(if f 1 2)", "1"}, {"f x = x|(error f)", "! error"}, {"f x y = x|(car f)", "! pair"}, {"f x y = x|(+ 1 f)", "! number"}, {"f x y = x|(cons f 1)", "(#<function> . 1)"},
		{"f n = (if (= n 0) 1 (let ((m (- n 1))) (* n (f m))))|(f 30)", "265252859812191058636308480000000"}, {"f n = (if (= n 0) 1 (let ((m (- n 1))) (* n (f m))))|(f 200)", "! limit"},
		{"f n = (let ((x (f n))) (cons n x))|(car (cdr (cdr (f 5))))", "5"}, {"f n = (let ((m (+ n 1)) (x (f m))) (cons n x))|(f 1)", "! limit"}, {"f n = (let ((x (f n))) x)|(let ((x (f 1))) 2)", "2"},
		{"even n = (if (= n 0) #t (let ((m (- n 1))) (odd m)))|odd n = (if (= n 0) #f (let ((m (- n 1))) (even m)))|(let ((a (even 31)) (b (odd 31))) (cons a b))", "(#f . #t)"},
		// names that are bound again
		{"f x = (let ((f x)) (+ f 1))|(f 2)", "3"}, {"f x = (let ((x (g x))) x)|g y = 5|(f 2)", "5"}, {"input x = (+ x 1)|(input 2)", "3"}, {"f input = (+ input 1)|(f 2)", "3"}, {"f x = (car input)|g input = (f input)|(g 1)", "7"}, {"f x = (let ((g x)) (g 1))|g x = (* x 10)|(f g)", "10"}, {"f x = (let ((x (+ x 1))) x)|(f 1)", "! loop"}, {"f x = (g x)|g x = (let ((f 5)) (+ f x))|(let ((g 7)) (f g))", "12"},
		{"f x = (let ((y (+ x 1))) (let ((x (* y 2))) (- x y)))|(f 3)", "4"}, {"f x y = (if (< x 1) y (let ((a (- x 1)) (b (+ y x))) (f a b)))|(f 9 0)", "45"},
	}
}

func TestMains(t *testing.T) {
	for _, c := range mains() {
		check(t, program(t, c[0]), seven(), c[1])
	}
}

func TestLets(t *testing.T) {
	for _, c := range lets() {
		check(t, program(t, c[0]), seven(), c[1])
	}
}

func TestCalls(t *testing.T) {
	for _, c := range calls() {
		check(t, program(t, c[0]), seven(), c[1])
	}
}
