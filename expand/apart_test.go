package expand_test

import (
	"math/rand"
	"regexp"
	"strings"
	"testing"

	"thunk/api"
	"thunk/core"
	"thunk/expand"
)

// TestNamesApart: P603, and what an identifier stands for.
func TestNamesApart(t *testing.T) {
	const or = "(define-syntax or (syntax-rules () ((_ x y) (let ((t x)) (if t t y))))) "
	const swap = "(define-syntax swap (syntax-rules () ((_ x y e) (let ((x y) (y x)) e)))) "
	const maker = "(define-syntax make (syntax-rules () ((_ m x e) (let-syntax ((m (syntax-rules () ((_ y) (let ((x y)) (cons x (cons y t))))))) e)))) "
	checkTerms(t, pairs{
		{or + "(lambda (t) (or 1 t))", "(lambda (t.1) (let ((t.2 1)) (if t.2 t.2 t.1)))"},
		{or + "(lambda (t) (or t t))", "(lambda (t.1) (let ((t.2 t.1)) (if t.2 t.2 t.1)))"},
		{or + "(lambda (t) (or t (or t t)))", "(lambda (t.1) (let ((t.2 t.1)) (if t.2 t.2 (let ((t.3 t.1)) (if t.3 t.3 t.1)))))"},
		{or + "(lambda (t) (or (or t t) t))", "(lambda (t.1) (let ((t.3 (let ((t.2 t.1)) (if t.2 t.2 t.1)))) (if t.3 t.3 t.1)))"},
		{or + "(lambda (if) (or if 1))", "(lambda (if.1) (let ((t.2 if.1)) (if t.2 t.2 1)))"},
		{or + "(lambda (let if) (or let if))", "(lambda (let.1 if.2) (let ((t.3 let.1)) (if t.3 t.3 if.2)))"},
		{or + "(let ((if 1) (t 2)) (or if (or t if)))", "(let ((if.1 1) (t.2 2)) (let ((t.3 if.1)) (if t.3 t.3 (let ((t.4 t.2)) (if t.4 t.4 if.1)))))"},
		{or + "(define if 1) (or if 2)", "(let ((if.1 1)) (let ((t.2 if.1)) (if.1 t.2 t.2 2)))"}, // the rule is made where if is bound
		{or + "(define t 1) (or t t)", "(let ((t.1 1)) (let ((t.2 t.1)) (if t.2 t.2 t.1)))"},
		{swap + "(lambda (a b) (swap a b (a b)))", "(lambda (a.1 b.2) (let ((a.3 b.2) (b.4 a.1)) (a.3 b.4)))"},
		{"(define-syntax m (syntax-rules () ((_ x) (car x)))) (lambda (car) (m car))", "(lambda (car.1) (car car.1))"},
		{"(define-syntax m (syntax-rules () ((_ x) (f x)))) (define f car) (lambda (f) (m f))", "(let ((f.1 (lambda (a.2) (car a.2)))) (lambda (f.3) (f.1 f.3)))"},
		{"(define-syntax m (syntax-rules () ((_) input))) (lambda (input) (cons input (m)))", "(lambda (input.1) (cons input.1 input))"},
		{"(define-syntax m (syntax-rules () ((_ x) (lambda (x y) (x y))))) (m y)", "(lambda (y.1 y.2) (y.1 y.2))"},
		{"(define-syntax m (syntax-rules () ((_ x) (let ((x 1) (y 2)) (cons x y))))) (m y)", "(let ((y.1 1) (y.2 2)) (cons y.1 y.2))"},
		{"(define-syntax m (syntax-rules () ((_ x e) (lambda (x) (lambda (y) (+ e y)))))) (m y y)", "(lambda (y.1) (lambda (y.2) (+ y.1 y.2)))"},
		{"(define-syntax m (syntax-rules () ((_ (x ...) e) (n (x ... y) e)))) (define-syntax n (syntax-rules () ((_ (x ...) e) (lambda (x ... y) (e x ... y))))) (lambda (y) (m (x y) y))", "(lambda (y.1) (lambda (x.2 y.3 y.4 y.5) (y.3 x.2 y.3 y.4 y.5)))"},
		{"(lambda (x) (let-syntax ((m (syntax-rules () ((_ y) (cons x y))))) (lambda (x) (m x))))", "(lambda (x.1) (lambda (x.2) (cons x.1 x.2)))"},
		{"(lambda (x) (let-syntax ((m (syntax-rules () ((_ y e) (lambda (y) (cons x e)))))) (m x x)))", "(lambda (x.1) (lambda (x.2) (cons x.1 x.2)))"},

		{maker + "(define t 0) (lambda (t) (make f t (f t)))", "(let ((t.1 0)) (lambda (t.2) (let ((t.3 t.2)) (cons t.3 (cons t.2 t.1)))))"},
		{maker + "(define t 0) (lambda (y) (make let y (let y)))", "(let ((t.1 0)) (lambda (y.2) (let ((y.3 y.2)) (cons y.3 (cons y.2 t.1)))))"},
		{"(define-syntax m (syntax-rules () ((_ k) (let ((x 1)) (letrec-syntax ((n (syntax-rules () ((_ y) (cons x y))))) (let ((x 2)) (k n x))))))) (define-syntax k (syntax-rules () ((_ n x) (n x)))) (lambda (x) (m k))", "(lambda (x.1) (let ((x.2 1)) (let ((x.3 2)) (cons x.2 x.3))))"},
		{"(define-syntax m (syntax-rules () ((_) (let ((x 1)) (let-syntax ((n (syntax-rules () ((_) (let ((x 2)) (o x)))))) (let-syntax ((o (syntax-rules () ((_ y) (cons x y))))) (n)))))))  (define-syntax o (syntax-rules () ((_ x) x))) (m)", "(let ((x.1 1)) (let ((x.2 2)) x.2))"},
		{"(define-syntax q (syntax-rules () ((_ x) '(x y)))) (q (y lambda))", "(cons (cons 'y (cons 'lambda ())) (cons 'y ()))"},
		{"(define-syntax m (syntax-rules (else) ((_ else) 1) ((_ x) 2))) (define-syntax n (syntax-rules () ((_) (m else)))) (lambda (else) (cons (n) (m else)))", "(lambda (else.1) (cons 1 1))"},
	})
	checkFaults(t, api.ErrName,
		"(define-syntax m (syntax-rules () ((_) x))) (lambda (x) @(m))",
		"(define-syntax m (syntax-rules () ((_ e) (lambda (x) e)))) @(m x)",
		"(define-syntax m (syntax-rules () ((_ e) (letrec-syntax ((n (syntax-rules () ((_) 1)))) e)))) @(m (n 1))",
		"(lambda (y) (let-syntax ((m (syntax-rules () ((_) x)))) (lambda (x) @(m))))",
	)
	checkFaults(t, api.ErrTwice,
		"(define-syntax m (syntax-rules () ((_ x y) (lambda (x y) x)))) @(m z z)",
		"(define-syntax m (syntax-rules () ((_ x) (lambda (y x y) x)))) @(m z)",
		"(define-syntax m (syntax-rules () ((_ x) (n x y y)))) (define-syntax n (syntax-rules () ((_ x ...) (lambda (x ...) 1)))) @(m y)",
	)
}

// speaker makes texts of nothing but variables and uses of rules, in two ways: with names of no meaning, and with such as the rules bring, or words. (Dots are no such: they stay dots in rules that are made of what one handed in.)
type speaker struct {
	*rand.Rand
	plain, tricky []string
}

// each is a piece of a text in both ways.
type each [2]string

func say(pieces ...any) (s each) {
	for _, piece := range pieces {
		if both, is := piece.(each); is {
			s[0], s[1] = s[0]+both[0], s[1]+both[1]
			continue
		}
		s[0], s[1] = s[0]+piece.(string), s[1]+piece.(string)
	}
	return s
}

func (m speaker) name() each {
	n := m.Intn(len(m.plain))
	return each{m.plain[n], m.tricky[n]}
}

func (m speaker) term(deep int, bound []each) each {
	if deep == 0 || m.Intn(8) == 0 {
		if len(bound) == 0 {
			return say("7")
		}
		return bound[m.Intn(len(bound))]
	}
	part := func() each { return m.term(deep-1, bound) }
	x, y := m.name(), m.name()
	within := func(l ...each) each { return m.term(deep-1, append(append([]each{}, bound...), l...)) }
	switch m.Intn(9) {
	case 0:
		if x == y {
			return say("(%fn (", x, ") ", within(x), ")")
		}
		return say("(%fn (", x, " ", y, ") ", within(x, y), ")")
	case 1:
		return say("(%bind ", x, " ", part(), " ", within(x), ")")
	case 2:
		return say("(%rec ", x, " ", within(x), " ", within(x), ")")
	case 3:
		return say("(%or ", part(), " ", part(), ")")
	case 4:
		return say("(%twice ", x, " ", part(), " ", within(x), ")")
	case 5:
		return say("(%all ", part(), " ", part(), " ", part(), ")")
	case 6:
		return say("(%make ", x, " ", part(), " ", within(x), ")")
	case 7:
		return say("(%pair ", part(), " ", part(), ")")
	}
	return say("(", part(), " ", part(), ")")
}

// prelude is the rules that a speaker uses, each % a sign that its names have not.
const prelude = `
(define-syntax %fn (syntax-rules () ((_ (x ...) e) (lambda (x ...) e))))
(define-syntax %bind (syntax-rules () ((_ x v e) (let ((x v)) e))))
(define-syntax %rec (syntax-rules () ((_ x v e) (letrec ((x v)) e))))
(define-syntax %or (syntax-rules () ((_ a b) (let ((t a)) (if t t b)))))
(define-syntax %twice (syntax-rules () ((_ x v e) (let ((t v) (x v)) (lambda (f) (if t e (f t)))))))
(define-syntax %all (syntax-rules () ((_ e) e) ((_ e f ...) (let ((t e) (u (%all f ...))) (+ t u)))))
(define-syntax %make (syntax-rules () ((_ x v e) (letrec-syntax ((m (syntax-rules () ((_ k t) (let ((u t) (x k)) (lambda (t2) (if u e x)))) ((_ k) (let ((t v)) (m k t)))))) (m v)))))
(define-syntax %pair (syntax-rules () ((_ a b) (let-syntax ((t (syntax-rules () ((_ x) (cons x a))))) (t b)))))
`

// TestRenamed: P603: which names one uses does not tell, though the rules bring the same ones, or words.
func TestRenamed(t *testing.T) {
	rules := strings.ReplaceAll(prelude, "%", "r-")
	m := speaker{Rand: rand.New(rand.NewSource(1))}
	names := strings.Fields("lambda let letrec if let-syntax letrec-syntax syntax-rules quote define cons car + input t u x v e f k m a b _ t2 r-all2")
	for i := range names {
		m.plain = append(m.plain, "z"+strings.Repeat("z", i))
	}
	numbered := regexp.MustCompile(`[^ ()]+\.([0-9]+)`)
	long := 0
	for range 3000 {
		m.tricky = append([]string{}, names...)
		m.Shuffle(len(names), func(i, j int) { m.tricky[i], m.tricky[j] = m.tricky[j], m.tricky[i] })
		s := m.term(1+m.Intn(4), nil)
		var texts [2]string
		for i := range s {
			text := rules + strings.ReplaceAll(s[i], "%", "r-")
			if len(text) > api.MaxSource {
				continue
			}
			e, at, err := expand.Expand(parse(text))
			if err != api.OK {
				t.Fatalf("P603: %s: %v at %d", text, err, at)
			}
			if len(core.Free(e)) > 0 {
				t.Fatalf("P603: %s: %q free", text, core.Free(e))
			}
			texts[i] = numbered.ReplaceAllString(core.Text(e), "$1")
		}
		if texts[0] != texts[1] {
			t.Fatalf("P603: %s is\n%s, with other names\n%s", s[1], texts[1], texts[0])
		}
		if len(texts[0]) > 200 {
			long++
		}
	}
	if long < 500 {
		t.Errorf("%d long ones alone", long)
	}
}
