package lift_test

import (
	"testing"

	"thunk/core"
	"thunk/lift"
)

// none are terms without functions.
func none() []string {
	return []string{
		"5", "-12", "#f", "()", "'f", "input", "(car input)",
		"(let ((x 1) (y x)) (cons x y))", "(let ((x y) (y x)) (x y))", "(if (car input) (let ((x input)) x) (input 1 2))",
		"(let ((f input)) ((f 1) 2))", "(let ((%.1 (car input))) (cons %.1 ()))",
	}
}

// lifted are terms, and what they are lifted to.
func lifted() [][2]string {
	return [][2]string{
		// (1): a function without a name, in each place
		{"(lambda (x) x)", "%l.1 x = x|%l.1"},
		{"((lambda (x) x) 1)", "%l.1 x = x|(%l.1 1)"},
		{"(input (lambda (x) x))", "%l.1 x = x|(input %l.1)"},
		{"(if (lambda (a) a) (lambda (b) b) (lambda (c) c))", "%l.1 a = a|%l.2 b = b|%l.3 c = c|(if %l.1 %l.2 %l.3)"},
		{"(seq (lambda (a) a) (car (lambda (b) b)))", "%l.1 a = a|%l.2 b = b|(seq %l.1 (car %l.2))"},
		{"(let ((x 1)) (lambda (y) y))", "%l.1 y = y|(let ((x 1)) %l.1)"},
		{"(let ((x (if input (lambda (y) y) 2))) x)", "%l.1 y = y|(let ((x (if input %l.1 2))) x)"},
		{"(let ((x (let ((y 1)) (lambda (z) z)))) x)", "%l.1 z = z|(let ((x (let ((y 1)) %l.1))) x)"},
		// (1): numbers: within another one behind it
		{"(lambda (x y) (lambda (z) 1))", "%l.1 x y = %l.2|%l.2 z = 1|%l.1"},
		{"(cons (lambda (a) (lambda (b) (lambda (c) 1))) (lambda (d) 2))", "%l.1 a = %l.2|%l.2 b = %l.3|%l.3 c = 1|%l.4 d = 2|(cons %l.1 %l.4)"},
		{"(let ((f (lambda (x) (lambda (y) y))) (g (lambda (z) z))) (lambda (w) w))", "f x = %l.1|g z = z|%l.1 y = y|%l.2 w = w|%l.2"},
		// (2): extras by names, each once, ahead of the function's own; neither functions nor input
		{"(lambda (x.2) (lambda (x.10) (lambda (a) (+ x.2 (+ x.10 x.2)))))", "%l.1 x.2 = (%l.2 x.2)|%l.2 x.2 x.10 = (%l.3 x.10 x.2)|%l.3 x.10 x.2 a = (+ x.2 (+ x.10 x.2))|%l.1"},
		{"(let ((c 1) (b 2) (f (lambda (z a) (if b c (z input))))) (f 1 2))", "f b c z a = (if b c (z input))|(let ((c 1) (b 2)) (f b c 1 2))"},
		{"(let ((f (lambda (x) (g x))) (g (lambda (y) (f input)))) (f 1))", "f x = (g x)|g y = (f input)|(f 1)"},
		{"(lambda (x) (let ((f (lambda (y) (let ((z y)) (+ x z))))) f))", "%l.1 x = (f x)|f x y = (let ((z y)) (+ x z))|%l.1"},
		{"(let ((x 1)) (let ((f (lambda (y) (let ((g (lambda (z) x))) 1)))) (f 1)))", "f x y = 1|g x z = x|(let ((x 1)) (f x 1))"},
		// (2): those of functions that are asked for, on and on, out to who binds them
		{"(lambda (x) (let ((f (lambda (a) (g a))) (g (lambda (b) (h b))) (h (lambda (c) x)) (i (lambda (d) 1))) (f i)))", "%l.1 x = (f x i)|f x a = (g x a)|g x b = (h x b)|h x c = x|i d = 1|%l.1"},
		{"(lambda (x y) (let ((f (lambda (a) (+ x (g a)))) (g (lambda (b) (+ y (f b))))) f))", "%l.1 x y = (f x y)|f x y a = (+ x (g x y a))|g x y b = (+ y (f x y b))|%l.1"},
		{"(lambda (x) (let ((f (lambda (a) x))) (lambda (b) (let ((y b) (g (lambda (c) (f y)))) g))))", "%l.1 x = (%l.2 x)|f x a = x|%l.2 x b = (let ((y b)) (g x y))|g x y c = (f x y)|%l.1"},
		{"(lambda (x) (let ((f (lambda (a) (let ((g (lambda (b) (h a)))) g))) (h (lambda (c) (f x)))) f))", "%l.1 x = (f x)|f x a = (g a x)|h x c = (f x x)|g a x b = (h x a)|%l.1"},
		// (3): each place; what is called by its name has its own arguments behind
		{"(lambda (x) (let ((f (lambda (y) x))) (if f (f f) (let ((z f)) (seq f z)))))", "%l.1 x = (if (f x) (let ((%p.1 (f x))) (f x %p.1)) (let ((z (f x))) (seq (f x) z)))|f x y = x|%l.1"},
		{"(lambda (x) (let ((f (lambda (y z) x))) ((f 1) 2)))", "%l.1 x = ((f x 1) 2)|f x y z = x|%l.1"},
		{"(lambda (x) (let ((f (lambda (y) x))) (f 1 2 3)))", "%l.1 x = (f x 1 2 3)|f x y = x|%l.1"},
		{"(lambda (x) (let ((f (lambda (y) x))) ((if x f f) 1)))", "%l.1 x = ((if x (f x) (f x)) 1)|f x y = x|%l.1"},
		{"(lambda (x) ((lambda (y) x) 1))", "%l.1 x = ((%l.2 x) 1)|%l.2 x y = x|%l.1"},
		// (4): lets that have something left, and those that have not
		{"(let ((a 1) (f (lambda (x) x)) (b 2) (g (lambda (y) y)) (c 3)) (f a))", "f x = x|g y = y|(let ((a 1) (b 2) (c 3)) (f a))"},
		{"(let ((f (lambda (x) x))) (let ((g (lambda (y) y))) (let ((a 1)) (let ((h (lambda (z) z))) a))))", "f x = x|g y = y|h z = z|(let ((a 1)) a)"},
		{"(let ((a (let ((f (lambda (x) x))) f))) a)", "f x = x|(let ((a f)) a)"},
		// (4): a let's own ahead of those within its parts, in order
		{"(let ((f (lambda (a) (let ((g (lambda (b) b))) g))) (h (lambda (c) (lambda (d) d)))) (let ((i (lambda (e) e))) i))", "f a = g|h c = %l.1|g b = b|%l.1 d = d|i e = e|i"},
		{"(let ((a (lambda (v) (lambda (w) w))) (b (if input (lambda (x) x) 1)) (c (lambda (y) y))) (lambda (z) z))", "a v = %l.1|c y = y|%l.1 w = w|%l.2 x = x|%l.3 z = z|(let ((b (if input %l.2 1))) %l.3)"},
		// (5): one row of names, on and on
		{"(let ((f (lambda (x) (f (f x)))) (g (lambda (y) (cons (car y) (cdr y))))) (f (g (g 1))))", "f x = (let ((%p.1 (f x))) (f %p.1))|g y = (let ((%p.2 (car y))) (let ((%p.3 (cdr y))) (cons %p.2 %p.3)))|(let ((%p.5 (let ((%p.4 (g 1))) (g %p.4)))) (f %p.5))"},
		{"(lambda (x) (let ((f (lambda (y) (cons f x)))) (f f)))", "%l.1 x = (let ((%p.1 (f x))) (f x %p.1))|f x y = (let ((%p.2 (f x))) (cons %p.2 x))|%l.1"},
		{"(lambda (x) (input (lambda (y) (input x)) (lambda (z) z)))", "%l.1 x = (let ((%p.1 (%l.2 x))) (input %p.1 %l.3))|%l.2 x y = (input x)|%l.3 z = z|%l.1"},
		{"(let ((%.1 (car input)) (%.2 (lambda (x) (cons %.1 (car x))))) (%.2 (%.2 1)))", "%.2 %.1 x = (let ((%p.1 (car x))) (cons %.1 %p.1))|(let ((%.1 (car input))) (let ((%p.2 (%.2 %.1 1))) (%.2 %.1 %p.2)))"},
		// names of odd texts are names still
		{"(let ((f (lambda (%) (f (car %) f))) (.% (lambda (.%p.1) (.% %.))) (%. 1)) (f (f .%)))", "f % = (let ((%p.1 (car %))) (f %p.1 f))|.% %. .%p.1 = (.% %. %.)|(let ((%. 1)) (let ((%p.3 (let ((%p.2 (.% %.))) (f %p.2)))) (f %p.3)))"},
	}
}

func checkLift(t *testing.T, s, want string) {
	t.Helper()
	e := term(t, s)
	p := lift.Lift(e)
	if got := lines(lift.Text(p)); got != want {
		t.Errorf("P902: Lift(%s) is %s, not %s", s, got, want)
	}
	if !lift.Right(p) || core.Text(e) != s {
		t.Errorf("P903: Lift(%s) is not right", s)
	}
}

func TestLift(t *testing.T) {
	for _, s := range none() {
		checkLift(t, s, s)
	}
	for _, c := range lifted() {
		checkLift(t, c[0], c[1])
	}
}
