package expand_test

import (
	"strings"
	"testing"

	"thunk/api"
	"thunk/core"
	"thunk/expand"
	"thunk/read"
)

// parse is a text's data.
func parse(s string) []api.Datum {
	l, _, e := read.Read(s)
	if e != api.OK {
		panic(e.Error() + " in " + s)
	}
	return l
}

func integer(text string) api.Datum { return api.Datum{Kind: api.DInt, Text: text} }

func symbol(text string, marks ...int) api.Datum {
	return api.Datum{Kind: api.DSym, Text: text, Marks: marks}
}

func list(parts ...api.Datum) api.Datum { return api.Datum{Kind: api.DList, L: parts} }

// checkTerm checks that the text's term is written so.
func checkTerm(t *testing.T, s, want string) {
	t.Helper()
	e, at, err := expand.Expand(parse(s))
	if err != api.OK || at != 0 {
		t.Errorf("Expand(%s): %v at %d, not %s", s, err, at, want)
		return
	}
	if got := core.Text(e); got != want || !core.Right(e) {
		t.Errorf("Expand(%s) is %s, not %s", s, got, want)
	}
}

// checkFault checks that the text's error is that one, told where @ stands in it.
func checkFault(t *testing.T, s string, want api.Errno) {
	t.Helper()
	wantAt := strings.IndexByte(s, '@')
	if wantAt < 0 || strings.Count(s, "@") > 1 {
		t.Fatalf("%s has not one @", s)
	}
	s = strings.ReplaceAll(s, "@", "")
	e, at, err := expand.Expand(parse(s))
	if err != want || at != wantAt {
		t.Errorf("Expand(%s): %v at %d, not %v at %d", s, err, at, want, wantAt)
	}
	if e.Kind != 0 || e.Text != "" || e.Names != nil || e.A != nil {
		t.Errorf("P4: Expand(%s) answers %+v beside an error", s, e)
	}
}

type pairs [][2]string

func checkTerms(t *testing.T, l pairs) {
	t.Helper()
	for _, x := range l {
		checkTerm(t, x[0], x[1])
	}
}

func checkFaults(t *testing.T, want api.Errno, l ...string) {
	t.Helper()
	for _, s := range l {
		checkFault(t, s, want)
	}
}

// TestDefinitions: P601.
func TestDefinitions(t *testing.T) {
	checkTerms(t, pairs{
		{"1", "1"},
		{"(define x 1) x", "(let ((x.1 1)) x.1)"},
		{"(define x 1) 2", "(let ((x.1 1)) 2)"},
		{"(define x y) (define y x) (+ x y)", "(let ((x.1 y.2) (y.2 x.1)) (+ x.1 y.2))"},
		{"(define (f x) (f x)) (f 1)", "(let ((f.1 (lambda (x.2) (f.1 x.2)))) (f.1 1))"},
		{"(define (f x y f) (f x y)) f", "(let ((f.1 (lambda (x.2 y.3 f.4) (f.4 x.2 y.3)))) f.1)"},
		{"(define (f x) x) (define (g x) (f x)) (g 1)", "(let ((f.1 (lambda (x.3) x.3)) (g.2 (lambda (x.4) (f.1 x.4)))) (g.2 1))"},
		{"(define f (lambda (x) x)) (lambda (x) (f x))", "(let ((f.1 (lambda (x.2) x.2))) (lambda (x.3) (f.1 x.3)))"},
		{"(define-syntax m (syntax-rules () ((_ x) x))) (m 1)", "1"},
		{"(define-syntax m (syntax-rules () ((_ x) x))) (define y (m 1)) (m y)", "(let ((y.1 1)) y.1)"},
		{"(define y (m 1)) (define-syntax m (syntax-rules () ((_ x) (+ x z)))) (define z 2) (m y)", "(let ((y.1 (+ 1 z.2)) (z.2 2)) (+ y.1 z.2))"},
		{"(define-syntax m (syntax-rules () ((_ x) (n x)))) (define-syntax n (syntax-rules () ((_ x) (m2 x)))) (define-syntax m2 (syntax-rules () ((_ x) 'x))) (m 1)", "1"},
		{"(define lambda 1) (define (f x) x) (f lambda)", "(let ((lambda.1 1) (f.2 (lambda (x.3) x.3))) (f.2 lambda.1))"},
		{"(define define 1) (define x define) (+ x define)", "(let ((define.1 1) (x.2 define.1)) (+ x.2 define.1))"},
		{"(define define-syntax 1) (define-syntax m (syntax-rules () ((_) define-syntax))) (m)", "(let ((define-syntax.1 1)) define-syntax.1)"},
		{"(define if 1) (if if if if)", "(let ((if.1 1)) (if.1 if.1 if.1 if.1))"},
		{"(define car cdr) (car 1)", "(let ((car.1 (lambda (a.2) (cdr a.2)))) (car.1 1))"},
		{"(define input 1) input", "(let ((input.1 1)) input.1)"},
		{"(define ... 1) (define _ 2) (+ ... _)", "(let ((....1 1) (_.2 2)) (+ ....1 _.2))"},
		{"(define x.1 1) (define x 2) (+ x.1 x)", "(let ((x.1.1 1) (x.2 2)) (+ x.1.1 x.2))"},
		{"(define (lambda x) x) (lambda 1)", "(let ((lambda.1 (lambda (x.2) x.2))) (lambda.1 1))"},
	})
}

// TestDefinitionFaults: P601.
func TestDefinitionFaults(t *testing.T) {
	const id = "(define-syntax id (syntax-rules () ((_ x) x))) "
	checkFaults(t, api.ErrForm,
		"@",
		"@1 2", "@x 2", "@(f x) 2", "@() 2", "@(lambda (x) x) 2", "(define x 1) @2 3", "@2 (define x 1) 3", "@2 (define x)", "(define) @2 3 (f)",
		"@(define x 1)", "(define x 1) @(define y 2)", "@(define)", "(define) @(define-syntax)", "@(define-syntax x)", "(define x y) @(define-syntax m (syntax-rules () ((_) 1)))",
		"@(define) 1", "@(define x) 1", "@(define x 1 2) 1", "@(define 5 1) 1", "@(define #t 1) 1", "@(define () 1) 1", "@(define (f) 1) 1", "@(define (f x)) 1", "@(define (f x) 1 2) 1", "@(define (5 x) 1) 1", "@(define ((f x) y) 1) 1", "@(define (() x) 1) 1", "@(define ((quote f) x) 1) 1",
		"(define x y) @(define) 1", "(define x y) @(define (f) 1) 1", "(define (f 5) 1) @(define) 1", "@(define (f 5) 1) 1", "@(define (f x ()) 1) 1", "(define x (if 1 2 3)) @(define (f x 5) 1) 1", "(define (f x) x) @(define (g x 5 x) (f)) 1", "@(define (f x x 5) 1) 1",
		"@(define-syntax) 1", "@(define-syntax m) 1", "@(define-syntax (m x) 1) 1", "@(define-syntax m (syntax-rules () ((_) 1)) 2) 1", "@(define-syntax 5 (syntax-rules () ((_) 1))) 1", "@(define-syntax () (syntax-rules () ((_) 1))) 1",
		"(define-syntax m @5) 1", "(define-syntax m @()) 1", "(define-syntax m @x) (define x 1) 1", "(define-syntax id @(syntax-rules)) (define id 1) 1", "(define x 1) (define-syntax id @id) (define) 1",
		id+"@(id 1) 2", id+"(define x 1) (define-syntax y @(id (syntax-rules () ((_) 1)))) 1",
		id+"@(id (define x 1))", id+"(define x 1) @(id (define-syntax y (syntax-rules () ((_) 1))))",
	)
	checkFaults(t, api.ErrTwice,
		"(define x 1) (define @x 2) x", "(define x 1) (define (@x y) 2) x", "(define (f x) 1) (define y 2) (define (@f y) 2) x", "(define x y) (define y x) (define @x 1) (define y 2) 3",
		"(define x z) (define-syntax @x 5) 1", id+"(define @id z) 1", id+"(define-syntax @id 5) 1", "(define x 1) (define @x 1) (define) 1", "(define x 1) (define @x 1) (define-syntax m 5) 1",
		"(define (f x @x) 1) 1", "(define (f a b @b a) 1) 1", "(define (f x @x) z) 1", "(define-syntax z (syntax-rules () ((_) 1))) (define @z 1) 1",
	)
	checkFaults(t, api.ErrName, "(define x @y) (define (f z z) 1) 1", "(define x @y) (define y2 (if)) z", "(define x 1) @y", "(define (f x) (+ x @y)) 1", "(define (f x) 1) @x", "(define (f x) 1) (define y @x) 1")
	checkFaults(t, api.ErrForm, "(define (f z) @(if)) (define x y) 1", "(define-syntax m @5) (define x y) 1", "(define x y) (define-syntax m @5) 1", "@1 (define x) (define x) (define-syntax x 5) y")
}

// TestRules: P601, the rules' form and their errors.
func TestRules(t *testing.T) {
	for _, around := range []string{"(define-syntax m %) 1", "(let-syntax ((m %)) 1)", "(letrec-syntax ((n (syntax-rules () ((_) 1))) (m %)) x)", "(let-syntax ((m %) (n 5)) 1)"} {
		fill := func(s string) string { return strings.Replace(around, "%", s, 1) }
		for _, s := range []string{
			"@5", "@#t", "@x", "@()", "@(syntax-rules)", "@(syntax-rules ())", "@(syntax-rules (x y))", "@(syntax-rules x ((_) 1))", "@(syntax-rules 5 ((_) 1))", "@(syntax-rules (5) ((_) 1))", "@(syntax-rules (x ()) ((_) 1))", "@(syntax-rules (x #t y) ((_) 1))",
			"@(syntax-rules ((_) 1) ())", "@(syntax-rules () ())", "@(syntax-rules () 5)", "@(syntax-rules () x)", "@(syntax-rules () ((_)))", "@(syntax-rules () ((_) 1 2))", "@(syntax-rules () (_ 1))", "@(syntax-rules () (() 1))", "@(syntax-rules () (5 1))",
			"@(syntax-rules () ((_) 1) 5)", "@(syntax-rules () ((_) 1) ((_ x)))", "@(syntax-rules () ((_ x x) 1) (() 1))", "@(syntax-rules () ((_ ...) 1) 5)",
			"@(syntax-rule () ((_) 1))", "@(lambda () ((_) 1))", "@((syntax-rules) () ((_) 1))", "@'(syntax-rules () ((_) 1))",
			"(syntax-rules () @((_ ...) 1))", "(syntax-rules () @((_ ... x) 1))", "(syntax-rules () @((_ x ... ...) 1))", "(syntax-rules () @((_ (x ... y ...)) 1))", "(syntax-rules () @((_ x) ...))", "(syntax-rules () @((_ x) (... x)))", "(syntax-rules () @((_ x) (x ...)))", "(syntax-rules () @((_ x ...) x))", "(syntax-rules () @((_ x ...) ((x ...) ...)))", "(syntax-rules () @((_ x ...) (x ... ...)))", "(syntax-rules (...) @((_ x ...) x))", "(syntax-rules () ((_ x) x) @((_ x ...) x) ((_ x x) 1))", "(syntax-rules () @((x) (x ...)))",
		} {
			checkFault(t, fill(s), api.ErrForm)
		}
		for _, s := range []string{"(syntax-rules () @((_ x x) 1))", "(syntax-rules () @((_ x (y (x))) 1))", "(syntax-rules () ((_ x) x) @((_ y x y) y))", "(syntax-rules () @((_ x x) (... x)))", "(syntax-rules (y) @((_ y y x x) (...)))", "(syntax-rules () ((_) 1) @((_ x x) 1) ((_ ...) 1))"} {
			checkFault(t, fill(s), api.ErrTwice)
		}
	}
	for _, s := range []string{"(syntax-rules () ((_) 1))", "(syntax-rules (x y) ((_) 1))", "(syntax-rules (x x) ((_ x x) 2) ((_) 1))", "(syntax-rules (... _) ((_) 1))", "(syntax-rules () ((5) 1))", "(syntax-rules () ((()) 1))", "(syntax-rules () ((x x) 2) ((x) 1))", "(syntax-rules () ((...) 1))", "(syntax-rules () ((_ _ _) 1) ((m) 1))", "(syntax-rules (syntax-rules) ((m m) 2) ((m) 1) ((m) 3))", "(syntax-rules () (((m x)) 1))"} {
		checkTerm(t, "(define-syntax m "+s+") (m)", "1")
		checkTerm(t, "(let-syntax ((m "+s+")) (m))", "1")
		checkTerm(t, "(define syntax-rules 2) (letrec-syntax ((m "+s+")) (m))", "(let ((syntax-rules.1 2)) 1)")
	}
}

// TestAtoms: P602.
func TestAtoms(t *testing.T) {
	big := strings.Repeat("9", api.MaxDigits)
	checkTerms(t, pairs{
		{"0", "0"}, {"-7", "-7"}, {"-" + big, "-" + big}, {"#t", "#t"}, {"#f", "#f"},
		{"input", "input"},
		{"car", "(lambda (a.1) (car a.1))"},
		{"+", "(lambda (a.1 a.2) (+ a.1 a.2))"},
		{"(lambda (a) -)", "(lambda (a.1) (lambda (a.2 a.3) (- a.2 a.3)))"},
		{"(let ((x (+ car cons)) (a not)) (seq a error))", "(let ((x.5 (+ (lambda (a.1) (car a.1)) (lambda (a.2 a.3) (cons a.2 a.3)))) (a.6 (lambda (a.4) (not a.4)))) (seq a.6 (lambda (a.7) (error a.7))))"},
	})
	for _, prim := range []string{"+", "-", "*", "quotient", "remainder", "<", "=", "eq?", "cons", "seq"} {
		checkTerm(t, prim, "(lambda (a.1 a.2) ("+prim+" a.1 a.2))")
		checkTerm(t, "("+prim+" 1 2)", "("+prim+" 1 2)")
		checkTerm(t, "("+prim+" 1)", "((lambda (a.1 a.2) ("+prim+" a.1 a.2)) 1)")
		checkTerm(t, "("+prim+" 1 2 3)", "((lambda (a.1 a.2) ("+prim+" a.1 a.2)) 1 2 3)")
		checkFault(t, "@("+prim+")", api.ErrForm)
		checkFault(t, "("+prim+" 1 @x)", api.ErrName)
	}
	for _, prim := range []string{"car", "cdr", "null?", "pair?", "not", "integer?", "symbol?", "error"} {
		checkTerm(t, prim, "(lambda (a.1) ("+prim+" a.1))")
		checkTerm(t, "("+prim+" 1)", "("+prim+" 1)")
		checkTerm(t, "("+prim+" 1 2)", "((lambda (a.1) ("+prim+" a.1)) 1 2)")
		checkFault(t, "@("+prim+")", api.ErrForm)
	}
	for _, word := range words() {
		checkFault(t, "@"+word, api.ErrForm)
		checkFault(t, "(+ 1 @"+word+")", api.ErrForm)
		checkFault(t, "@("+word+")", api.ErrForm)
		checkTerm(t, "(lambda ("+word+") ("+word+" 1))", "(lambda ("+word+".1) ("+word+".1 1))")
	}
	for _, name := range []string{"x", "syntax-rules", "_", "...", "else", "list", "a", "a.1", "input2", "begin", "let*", "=>"} {
		checkFault(t, "@"+name, api.ErrName)
		checkFault(t, "(@"+name+" 1)", api.ErrName)
		checkFault(t, "@("+name+")", api.ErrForm)
	}
	checkFaults(t, api.ErrForm, "@()", "(car @())", "@(define-syntax m (syntax-rules () ((_) 1)))", "(car @(define x 1))", "(car @(define-syntax m (syntax-rules () ((_) 1))))", "(define-syntax m (syntax-rules () ((_) 1))) @m", "(define-syntax m (syntax-rules () ((_) 1))) (car @m)", "(let-syntax ((m (syntax-rules () ((_) 1)))) @m)")
}

func words() []string {
	return []string{"quote", "lambda", "let", "letrec", "if", "let-syntax", "letrec-syntax", "define", "define-syntax"}
}

// TestApplied: P602, all that is no form of its own.
func TestApplied(t *testing.T) {
	checkTerms(t, pairs{
		{"(1 2)", "(1 2)"},
		{"(#t 1 2)", "(#t 1 2)"},
		{"(input 1)", "(input 1)"},
		{"((car 1) 2)", "((car 1) 2)"},
		{"((lambda (x) x) 1)", "((lambda (x.1) x.1) 1)"},
		{"((lambda (f x) (f x x)) + 1)", "((lambda (f.1 x.2) (f.1 x.2 x.2)) (lambda (a.3 a.4) (+ a.3 a.4)) 1)"},
		{"(lambda (car) (car 1))", "(lambda (car.1) (car.1 1))"},
		{"('() 1)", "(() 1)"},
		{"(((1 2) 3) 4)", "(((1 2) 3) 4)"},
	})
	checkFaults(t, api.ErrForm, "@(1)", "@(#t)", "@(input)", "@((car 1))", "@((lambda (x) x))", "@('())", "@((x))", "@(())", "(@() 1)", "(1 @(2))", "@(x)", "(lambda (x) @(x))")
	checkFaults(t, api.ErrName, "(@x y)", "(1 @x y)", "(1 2 (3 @x))", "(car @x)", "(cons @x y)", "((lambda (x) x) @x)", "(@x (if))", "(@x ())")
}

// TestQuote: P602.
func TestQuote(t *testing.T) {
	many := func(n int) string { return "(" + strings.Repeat("1 ", n) + ")" }
	checkTerms(t, pairs{
		{"'5", "5"}, {"'-5", "-5"}, {"'#t", "#t"}, {"'#f", "#f"}, {"'a", "'a"}, {"'lambda", "'lambda"}, {"'()", "()"}, {"'...", "'..."}, {"(quote a)", "'a"},
		{"'(a)", "(cons 'a ())"},
		{"'(1 #t a)", "(cons 1 (cons #t (cons 'a ())))"},
		{"'((a b) () c)", "(cons (cons 'a (cons 'b ())) (cons () (cons 'c ())))"},
		{"''a", "(cons 'quote (cons 'a ()))"},
		{"'(define x 1)", "(cons 'define (cons 'x (cons 1 ())))"},
		{"(lambda (a cons) '(a))", "(lambda (a.1 cons.2) (cons 'a ()))"},
		{"(define cons 1) '(cons)", "(let ((cons.1 1)) (cons 'cons ()))"},
		{"'" + many(299), strings.Repeat("(cons 1 ", 299) + "()" + strings.Repeat(")", 299)},
		{"(lambda (quote) (quote 1))", "(lambda (quote.1) (quote.1 1))"},
		{"(lambda (quote) '1)", "(lambda (quote.1) (quote.1 1))"},
	})
	checkFaults(t, api.ErrForm, "@(quote)", "@(quote 1 2)", "(car @(quote))", "@(quote "+many(300)+" 1)")
	checkFaults(t, api.ErrDeep, "@'"+many(300), "(car @(quote "+many(300)+"))", "@'("+many(297)+" 1 2)")
	checkTerm(t, "(car '("+many(297)+" 1))", "(car (cons "+strings.Repeat("(cons 1 ", 297)+"()"+strings.Repeat(")", 297)+" (cons 1 ())))")
}

// TestLambda: P602.
func TestLambda(t *testing.T) {
	checkTerms(t, pairs{
		{"(lambda (x) x)", "(lambda (x.1) x.1)"},
		{"(lambda (x y z) (y z x))", "(lambda (x.1 y.2 z.3) (y.2 z.3 x.1))"},
		{"(lambda (x) (lambda (x) x))", "(lambda (x.1) (lambda (x.2) x.2))"},
		{"(lambda (x) ((lambda (x) x) x))", "(lambda (x.1) ((lambda (x.2) x.2) x.1))"},
		{"(lambda (input) input)", "(lambda (input.1) input.1)"},
		{"(lambda (lambda) (lambda lambda 1))", "(lambda (lambda.1) (lambda.1 lambda.1 1))"},
		{"(lambda (x) ((lambda (y) y) (lambda (z) x)))", "(lambda (x.1) ((lambda (y.2) y.2) (lambda (z.3) x.1)))"},
	})
	checkFaults(t, api.ErrForm, "@(lambda)", "@(lambda (x))", "@(lambda () x)", "@(lambda x x)", "@(lambda 5 x)", "@(lambda (x) x x)", "@(lambda (5) x)", "@(lambda (x #t) x)", "@(lambda (x (y)) x)", "@(lambda (x x 5) x)", "@(lambda (x x) y z)", "(car @(lambda (x ()) y))")
	checkFaults(t, api.ErrTwice, "(lambda (x @x) x)", "(lambda (x y @x y) z)", "(lambda (x y @y x) z)", "(lambda (a b c @a) (if))")
	checkFaults(t, api.ErrName, "(lambda (x) @y)", "((lambda (x) x) @x)", "(lambda (x) (x @y))")
}

// TestLet: P602.
func TestLet(t *testing.T) {
	checkTerms(t, pairs{
		{"(let ((x 1)) x)", "(let ((x.1 1)) x.1)"},
		{"(let ((x 1) (y 2)) (+ x y))", "(let ((x.1 1) (y.2 2)) (+ x.1 y.2))"},
		{"(let ((x 1)) (let ((x x) (y x)) (+ x y)))", "(let ((x.1 1)) (let ((x.2 x.1) (y.3 x.1)) (+ x.2 y.3)))"},
		{"(let ((x (lambda (y) y)) (y (lambda (x) x))) (x y))", "(let ((x.3 (lambda (y.1) y.1)) (y.4 (lambda (x.2) x.2))) (x.3 y.4))"},
		{"(let ((car 1)) (car car))", "(let ((car.1 1)) (car.1 car.1))"},
		{"(let ((let 1)) (let let))", "(let ((let.1 1)) (let.1 let.1))"},
		{"(letrec ((x 1)) x)", "(let ((x.1 1)) x.1)"},
		{"(letrec ((x y) (y x)) (+ x y))", "(let ((x.1 y.2) (y.2 x.1)) (+ x.1 y.2))"},
		{"(letrec ((f (lambda (x) (f x))) (g (lambda (x) (f x)))) (g f))", "(let ((f.1 (lambda (x.3) (f.1 x.3))) (g.2 (lambda (x.4) (f.1 x.4)))) (g.2 f.1))"},
		{"(letrec ((letrec 1)) (letrec letrec))", "(let ((letrec.1 1)) (letrec.1 letrec.1))"},
		{"(letrec ((if car)) (if 1 if))", "(let ((if.1 (lambda (a.2) (car a.2)))) (if.1 1 if.1))"},
	})
	for _, word := range []string{"let", "letrec"} {
		for _, s := range []string{"@(%)", "@(% ((x 1)))", "@(% () 1)", "@(% x 1)", "@(% 5 1)", "@(% ((x 1)) x x)", "@(% (x) 1)", "@(% ((x)) 1)", "@(% ((x 1 2)) 1)", "@(% (()) 1)", "@(% ((5 1)) 1)", "@(% (((x) 1)) 1)", "@(% ((x y) z) 1)", "@(% ((x 1) (y)) z)", "@(% ((x 1) (x 2) (y)) z)", "@(% ((x 1) (x 2)))", "(car @(% ((x y) (x)) z))"} {
			checkFault(t, strings.ReplaceAll(s, "%", word), api.ErrForm)
		}
		for _, s := range []string{"(% ((x 1) (@x 2)) x)", "(% ((x 1) (y 2) (@y 3) (x 4)) z)", "(% ((x 1) (@x 2)) (if))"} {
			checkFault(t, strings.ReplaceAll(s, "%", word), api.ErrTwice)
		}
		for _, s := range []string{"(% ((x @y) (z (if))) u)", "(% ((x 1)) @y)"} {
			checkFault(t, strings.ReplaceAll(s, "%", word), api.ErrName)
		}
	}
	checkFaults(t, api.ErrName, "(let ((x @x)) x)", "(let ((x 1) (y @x)) x)", "(let ((x 1) (x @y)) x)", "(let ((x @y) (x 1)) x)")
	checkFault(t, "(letrec ((x y) (@x 1)) x)", api.ErrTwice)
}

// TestIf: P602.
func TestIf(t *testing.T) {
	checkTerms(t, pairs{
		{"(if 1 2 3)", "(if 1 2 3)"},
		{"(if (if 1 2 3) (if #t #f '()) car)", "(if (if 1 2 3) (if #t #f ()) (lambda (a.1) (car a.1)))"},
		{"(lambda (x) (if x (lambda (y) x) (lambda (y) y)))", "(lambda (x.1) (if x.1 (lambda (y.2) x.1) (lambda (y.3) y.3)))"},
	})
	checkFaults(t, api.ErrForm, "@(if)", "@(if 1)", "@(if 1 2)", "@(if 1 2 3 4)", "(if 1 @(if x y) 2)", "(if @() x y)")
	checkFaults(t, api.ErrName, "(if @x y z)", "(if 1 @x y)", "(if 1 2 @x)", "(if @x () ())")
}

// TestLetSyntax: P602.
func TestLetSyntax(t *testing.T) {
	const one, id = "(syntax-rules () ((_) 1))", "(syntax-rules () ((_ x) x))"
	checkTerms(t, pairs{
		{"(let-syntax ((m " + one + ")) (m))", "1"},
		{"(let-syntax ((m " + one + ") (n " + id + ")) (n (m)))", "1"},
		{"(letrec-syntax ((m " + one + ")) (m))", "1"},
		{"(let-syntax ((m " + one + ")) 2)", "2"},
		{"(lambda (m) (let-syntax ((n (syntax-rules () ((_) m)))) (lambda (m) (n))))", "(lambda (m.1) (lambda (m.2) m.1))"},
		{"(lambda (m) (let-syntax ((m (syntax-rules () ((_) (m 1))))) (m)))", "(lambda (m.1) (m.1 1))"},
		{"(lambda (m) (letrec-syntax ((m (syntax-rules () ((_) (m 1)) ((_ x) x)))) (m)))", "(lambda (m.1) 1)"},
		{"(let-syntax ((m " + one + ")) (let-syntax ((m (syntax-rules () ((_ x) (+ x (m))))) (n (syntax-rules () ((_ x) (m))))) (cons (m 2) (n 3))))", "(cons (+ 2 1) 1)"},
		{"(let-syntax ((m " + one + ")) (letrec-syntax ((m (syntax-rules () ((_ x) (m x x)) ((_ x y) (+ x y)))) (n (syntax-rules () ((_ x) (m x))))) (cons (m 2) (n 3))))", "(cons (+ 2 2) (+ 3 3))"},
		{"(letrec-syntax ((m (syntax-rules () ((_ x) (n x)))) (n (syntax-rules () ((_ x) 'x)))) (m y))", "'y"},
		{"(let-syntax ((m " + one + ")) (lambda (m) (m m)))", "(lambda (m.1) (m.1 m.1))"},
		{"(lambda (if) (let-syntax ((if (syntax-rules () ((_ x) (if x))))) (if 1)))", "(lambda (if.1) (if.1 1))"},
		{"(let-syntax ((car " + id + ") (let " + one + ") (let-syntax " + id + ")) (cons (car 1) (cons (let) (let-syntax 2))))", "(cons 1 (cons 1 2))"},
		{"(let-syntax ((input " + one + ")) (input))", "1"},
		{"(+ (let-syntax ((m " + one + ")) (m)) (let-syntax ((m " + id + ")) (m 2)))", "(+ 1 2)"},
	})
	for _, word := range []string{"let-syntax", "letrec-syntax"} {
		for _, s := range []string{"@(%)", "@(% ((m R)))", "@(% () 1)", "@(% m 1)", "@(% 5 1)", "@(% ((m R)) 1 2)", "@(% (m) 1)", "@(% ((m)) 1)", "@(% ((m R R)) 1)", "@(% (()) 1)", "@(% ((5 R)) 1)", "@(% (((m) R)) 1)", "@(% ((m R) 5) 1)", "@(% ((m 5) (n)) 1)", "@(% ((m R) (m R) (n)) 1)", "(% ((m @5)) 1)", "(% ((m R) (n @5)) x)", "(% ((m @5) (n (syntax-rules () ((_ x x) 1)))) x)", "(% ((m R)) @m)", "(% ((m R)) @(m2))", "(% ((m R) (n @m)) 1)"} {
			checkFault(t, strings.ReplaceAll(strings.ReplaceAll(s, "R", one), "%", word), api.ErrForm)
		}
		for _, s := range []string{"(% ((m R) (@m R)) 1)", "(% ((m 5) (@m R)) 1)", "(% ((m R) (n R) (@n 5) (m R)) x)", "(% ((m R)) (% ((m R) (@m R)) 1))", "(% ((m (syntax-rules () @((_ x x) 1))) (n 5)) 1)", "(% ((m R) (n (syntax-rules () @((_ x x) 1)))) x)"} {
			checkFault(t, strings.ReplaceAll(strings.ReplaceAll(s, "R", one), "%", word), api.ErrTwice)
		}
		checkFault(t, "("+word+" ((m "+one+")) @x)", api.ErrName)
	}
}

func TestAnswerOfNoData(t *testing.T) {
	for _, l := range [][]api.Datum{nil, {}, parse(" ; nothing\n")} {
		if e, at, err := expand.Expand(l); err != api.ErrForm || at != 0 || e.Kind != 0 {
			t.Errorf("P601: Expand of no data: %v at %d", err, at)
		}
	}
}
