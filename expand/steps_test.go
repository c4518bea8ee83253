package expand_test

import (
	"strconv"
	"strings"
	"testing"

	"thunk/api"
	"thunk/expand"
)

const (
	id    = "(define-syntax id (syntax-rules () ((_ x) x))) "
	chain = "(define-syntax chain (syntax-rules () ((_ x) x) ((_ y x ...) (chain x ...)))) " // as many uses within one another as it is given
)

// TestSteps: P602, what rules make of a use.
func TestSteps(t *testing.T) {
	const m = "(define-syntax m (syntax-rules (is) ((_) 0) ((_ is) 1) ((_ 5 x) (+ x 5)) ((_ #t x) x) ((_ (x y) ...) (cons '(x ...) '(y ...))) ((_ (x ...) (y ...) is) '((x y) ...)) ((_ (x ...) y is) '(x ... y)) ((_ x is y) (- x y)))) "
	checkTerms(t, pairs{
		{m + "(m)", "0"},
		{m + "(m is)", "1"},
		{m + "(lambda (is) (m is))", "(lambda (is.1) 1)"},
		{m + "(m 5 6)", "(+ 6 5)"},
		{m + "(m #t 7)", "7"},
		{m + "(m 1 is 2)", "(- 1 2)"},
		{m + "(m (a b))", "(cons (cons 'a ()) (cons 'b ()))"},
		{m + "(m (a 1) (b 2))", "(cons (cons 'a (cons 'b ())) (cons 1 (cons 2 ())))"},
		{m + "(m (a b c) (1 2 3) is)", "(cons (cons 'a (cons 1 ())) (cons (cons 'b (cons 2 ())) (cons (cons 'c (cons 3 ())) ())))"},
		{m + "(m (a b c) (1 2) is)", "(cons 'a (cons 'b (cons 'c (cons (cons 1 (cons 2 ())) ()))))"}, // not filled: the next rule
		{m + "(+ (m) (m is))", "(+ 0 1)"},
		{id + "'(id id)", "(cons 'id (cons 'id ()))"},
		{id + "(id (lambda (x) (id x)))", "(lambda (x.1) x.1)"},
		{id + "((id car) 1)", "((lambda (a.1) (car a.1)) 1)"},
		{id + "(id (let ((id 1)) id))", "(let ((id.1 1)) id.1)"},
		{"(define-syntax f (syntax-rules () ((x y) '(x y)))) (f 1)", "(cons 'x (cons 1 ()))"},
		{chain + "(chain 1 2 3)", "3"},
		{"(define-syntax const (syntax-rules () ((_ x) (lambda (y) x)))) (const 1)", "(lambda (y.1) 1)"},
		{"(define-syntax let* (syntax-rules () ((_ () e) e) ((_ ((x v) r ...) e) (let ((x v)) (let* (r ...) e))))) (let* ((x 1) (x (+ x 1)) (y x)) (cons x y))", "(let ((x.1 1)) (let ((x.2 (+ x.1 1))) (let ((y.3 x.2)) (cons x.2 y.3))))"},
	})
	checkFaults(t, api.ErrMatch, id+"@(id)", id+"@(id 1 2)", id+"(lambda (x) (x @(id)))", m+"@(m 1)", m+"@(m 6 1)", m+"@(m #f 1)", m+"@(m (a b) 1)", m+"@(m (a) (1 2) isnt)", id+"@(id (id))", chain+"@(chain)",
		"(define-syntax m (syntax-rules () ((_ (x ...) (y ...)) '((x y) ...)))) @(m (1) ())")
}

// TestPlaces: within what a rule brought, what its user handed in too, errors are told where the outermost use stands.
func TestPlaces(t *testing.T) {
	const brings = "(define-syntax brings (syntax-rules (name form two syntax more rule deep) ((_ name) nobody) ((_ form) (if)) ((_ two) (lambda (x x) x)) ((_ syntax) (let-syntax ((m 5)) 1)) ((_ rule) (let-syntax ((m (syntax-rules () ((_ x x) 1)))) 1)) ((_ more) (brings)) ((_ deep) (brings deep)))) "
	for _, around := range []string{"%", "(car %)", "(lambda (x) (x 1 %))", "(let ((y 1)) %)", "(letrec-syntax ((k (syntax-rules () ((_) nobody)))) %)"} {
		for _, wrap := range []string{"@%", "@(id %)", "@(id (id (car %)))", "@(id (let-syntax ((k (syntax-rules () ((_ x) x)))) (k %)))"} {
			s := strings.Replace(id+brings+around, "%", wrap, 1)
			checkFault(t, strings.Replace(s, "%", "(brings name)", 1), api.ErrName)
			checkFault(t, strings.Replace(s, "%", "(brings form)", 1), api.ErrForm)
			checkFault(t, strings.Replace(s, "%", "(brings two)", 1), api.ErrTwice)
			checkFault(t, strings.Replace(s, "%", "(brings syntax)", 1), api.ErrForm)
			checkFault(t, strings.Replace(s, "%", "(brings rule)", 1), api.ErrTwice)
			checkFault(t, strings.Replace(s, "%", "(brings more)", 1), api.ErrMatch)
			checkFault(t, strings.Replace(s, "%", "(brings deep)", 1), api.ErrDeep)
		}
	}
	checkFaults(t, api.ErrName, id+"@(id nobody)", id+"@(id (+ 1 nobody))", id+"(+ (id 1) @(id (car nobody)))", id+"(+ (id 1) @nobody)", id+"(cons (id car) (car @nobody))")
	checkFaults(t, api.ErrForm, id+"@(id (if 1 2))", id+"@(id id)", id+"@(id ())", id+"(define x @(id quote)) x")
	checkFaults(t, api.ErrTwice, id+"@(id (let ((x 1) (x 2)) x))")
	checkFaults(t, api.ErrName, id+"(define (f x) @(id y)) (define x (id z)) 1")
}

// TestDeep: a term within 300 others.
func TestDeep(t *testing.T) {
	uses := func(n int, s string) string { return "(chain " + strings.Repeat("1 ", n-1) + s + ")" } // s stands within n uses
	for _, c := range []struct {
		within, s, want string
		n               int // how many terms are around %, at most
	}{
		{"%", "7", "7", 299},
		{"%", "#t", "#t", 299},
		{"%", "input", "input", 299},
		{"%", "'(1 (2))", "(cons 1 (cons (cons 2 ()) ()))", 299},
		{"%", "(car 7)", "(car 7)", 298},
		{"%", "(if (car 7) 8 9)", "(if (car 7) 8 9)", 297},
		{"%", "(7 (8 9))", "(7 (8 9))", 297},
		{"%", "(lambda (x) x)", "(lambda (x.1) x.1)", 298},
		{"%", "(let ((x (car 1))) x)", "(let ((x.1 (car 1))) x.1)", 297},
		{"%", "(letrec ((x 1)) (car x))", "(let ((x.1 1)) (car x.1))", 297},
		{"(car %)", "7", "(car 7)", 298},
		{"(lambda (x) %)", "(x 7)", "(lambda (x.1) (x.1 7))", 297},
		{"(if 1 2 (car %))", "7", "(if 1 2 (car 7))", 297},
		{"(let ((y %)) 1)", "7", "(let ((y.1 7)) 1)", 298},
		{"(letrec ((y 1)) %)", "7", "(let ((y.1 1)) 7)", 298},
		{"(let-syntax ((m (syntax-rules () ((_) 1)))) %)", "7", "7", 298},
		{"(define y %) 1", "7", "(let ((y.1 7)) 1)", 299},
		{"(define (f y) %) 1", "7", "(let ((f.1 (lambda (y.2) 7))) 1)", 298},
		{"(define y 1) %", "7", "(let ((y.1 1)) 7)", 299},
		{"%", "car", "(lambda (a.1) (car a.1))", 299},
	} {
		text := chain + strings.Replace(c.within, "%", "@%", 1)
		checkTerm(t, strings.NewReplacer("@", "", "%", uses(c.n, c.s)).Replace(text), c.want)
		checkFault(t, strings.Replace(text, "%", uses(c.n+1, c.s), 1), api.ErrDeep)
	}
	for _, s := range []string{"nobody", "()", "(if)", "(chain)"} {
		checkFault(t, chain+"@"+uses(300, s), api.ErrDeep)
	}
	checkFault(t, chain+"@"+uses(299, "nobody"), api.ErrName)
	checkFault(t, chain+"@"+uses(299, "(chain)"), api.ErrMatch)
	checkFault(t, id+"(define-syntax f (syntax-rules () ((_ x) (f (car x))))) @(f 1)", api.ErrDeep)
	checkFault(t, "(letrec-syntax ((f (syntax-rules () ((_) (car (f)))))) (+ 1 @(f)))", api.ErrDeep)
}

// TestLimit: 2000 steps, and no more.
func TestLimit(t *testing.T) {
	const one = "(define-syntax m (syntax-rules () ((_) 1))) "
	uses := func(n int) string { return strings.Repeat("(m)", n) }
	checkTerm(t, one+"(+ "+uses(2)+")", "(+ 1 1)")
	checkTerm(t, one+"(0"+uses(api.MaxSteps)+")", "(0"+strings.Repeat(" 1", api.MaxSteps)+")")
	checkFaults(t, api.ErrLimit,
		one+"(0"+uses(api.MaxSteps)+"@(m))",
		one+"(0"+uses(api.MaxSteps)+"@(m)(m))",
		one+id+"(0"+uses(api.MaxSteps-1)+"@(id (id 1)))",
		one+"(0"+uses(api.MaxSteps)+"@(m 1))", // ahead of its form
		one+"(define (f x) (0"+uses(1000)+")) (define y (0"+uses(1000)+")) (f @(m))",
		"(define-syntax two (syntax-rules () ((_ x y ...) (cons (two y ...) (two y ...))) ((_) 1))) @(two 1 2 3 4 5 6 7 8 9 10)",
	)
	checkTerm(t, one+"(define y (m)) (0"+uses(api.MaxSteps-1)+")", "(let ((y.1 1)) (0"+strings.Repeat(" 1", api.MaxSteps-1)+"))")
	checkFault(t, one+"(0"+uses(api.MaxSteps-1)+"@(m 1))", api.ErrMatch)
}

// TestSizes: what is filled has a Size of 20000 at most.
func TestSizes(t *testing.T) {
	one := integer("1")
	for _, c := range []struct {
		template string
		row      int // how many 1 are handed in
		want     api.Errno
	}{
		{"(quote x)", 19997, api.ErrDeep},
		{"(quote x)", 19998, api.ErrLimit},
		{"x", 19999, api.OK},
		{"x", 20000, api.ErrLimit},
		{"(0 x)", 19997, api.OK},
		{"(0 x)", 19998, api.ErrLimit},
		{"(x x)", 9998, api.OK},
		{"(x x 1)", 9998, api.OK},
		{"(x x 1 1)", 9998, api.ErrLimit},
		{"(x x)", 9999, api.ErrLimit},
	} {
		l := parse("(define-syntax m (syntax-rules () ((_ x) " + c.template + "))) (m ())")
		row := list()
		for range c.row {
			row.L = append(row.L, one)
		}
		l[1].L[1] = row
		want, at := l[1].At, 0
		if c.want != api.OK {
			at = want
		}
		if _, got, err := expand.Expand(l); err != c.want || got != at {
			t.Errorf("P602: %s of %d: %v at %d, not %v", c.template, c.row, err, got, c.want)
		}
	}
	checkFault(t, "(define-syntax d (syntax-rules () ((_ x) (d (x x))))) (car @(d 1))", api.ErrLimit)
	checkFault(t, "(define-syntax d (syntax-rules () ((_ x ...) (d x ... x ...)))) (car @(d 1))", api.ErrLimit)
}

// TestGreat: what would be too great is not made: a datum of 10000, brought once more for each of a row of 10000, would take all memory.
func TestGreat(t *testing.T) {
	const wide = 10000
	var row []api.Datum
	for range wide {
		row = append(row, integer("1"))
	}
	for i, template := range []string{"((y x x x x x x x x x x) ...)", "((x y x) ... (y x) ...)", "(((x x x x) y (x x)) ...)"} {
		l := parse("(define-syntax m (syntax-rules () ((_ x (y ...)) " + template + ") ((_ x y) 1))) (m)")
		l[1].L = append(l[1].L, list(row...), list(row...))
		if _, at, err := expand.Expand(l); err != api.ErrLimit || at != l[1].At {
			t.Errorf("P602: %d: %v at %d", i, err, at)
		}
	}
	// Uneven rows are told ahead of that.
	l := parse("(define-syntax m (syntax-rules () ((_ x (y ...) (z ...)) ((x y) ... (y z) ...)) ((_ x y z) 1))) (m)")
	l[1].L = append(l[1].L, list(row...), list(row...), list(row[1:]...))
	if e, _, err := expand.Expand(l); err != api.OK || e.Text != "1" {
		t.Errorf("P602: uneven rows: %v", err)
	}
}

// TestWide: the work for many names is as long as they are.
func TestWide(t *testing.T) {
	const wide = 20000
	l := parse("(lambda () (f)) (let () (f)) (letrec () (f))")
	for i := range wide {
		x := symbol("x" + strconv.Itoa(i))
		for n := range l {
			pair := x
			if n > 0 {
				pair = list(x, integer("1"))
			}
			l[n].L[1].L = append(l[n].L[1].L, pair)
			l[n].L[2].L = append(l[n].L[2].L, x)
		}
	}
	for n, d := range l {
		d.L[2].L[0] = d.L[2].L[1]
		e, at, err := expand.Expand([]api.Datum{d})
		if err != api.OK || len(e.Names) != wide || e.Names[wide-1] != "x19999.20000" {
			t.Errorf("P602: %d: a wide one: %v at %d", n, err, at)
		}
		twice := d.L[1].L[wide-1]
		twice.At = 99
		if n > 0 {
			twice.L[0].At = 99
		}
		d.L[1].L = append(d.L[1].L, twice)
		if _, at, err := expand.Expand([]api.Datum{d}); err != api.ErrTwice || at != 99 {
			t.Errorf("P602: %d: a wide one with a name twice: %v at %d", n, err, at)
		}
	}
}
