package lift_test

import (
	"slices"
	"strconv"
	"strings"
	"testing"

	"thunk/api"
	"thunk/core"
	"thunk/expand"
	"thunk/lift"
	"thunk/norm"
	"thunk/read"
)

// cell is a term that is reckoned when it is asked for, or its value.
type cell struct {
	e    api.Expr
	at   map[string]*cell // what its names stand for
	v    *value
	busy bool
}

// value is a constant, a pair, or a function: with what it has been given.
type value struct {
	e     api.Expr
	at    map[string]*cell
	cells []*cell
}

// stop is why there is no value: the outcome's text.
type stop string

// reckoner reckons terms by need, as chapter 10 tells.
type reckoner struct {
	fuel int
	text strings.Builder
}

// with is what names stand for, with some more.
func with(at map[string]*cell, names []string, cells []*cell) map[string]*cell {
	all := map[string]*cell{}
	for name, c := range at {
		all[name] = c
	}
	for i, name := range names {
		all[name] = cells[i]
	}
	return all
}

func (r *reckoner) force(c *cell) *value {
	if c.v == nil {
		if c.busy {
			panic(stop("loop"))
		}
		c.busy = true
		c.v = r.term(c.e, c.at)
	}
	return c.v
}

// arguments are cells; of a name its own.
func (r *reckoner) arguments(l []api.Expr, at map[string]*cell) (cells []*cell) {
	for _, e := range l {
		c := &cell{e: e, at: at}
		if e.Kind == api.EVar {
			c = at[e.Text]
		}
		cells = append(cells, c)
	}
	return cells
}

func isFalse(v *value) bool { return v.e.Kind == api.EBool && v.e.Text == "#f" }

func (r *reckoner) term(e api.Expr, at map[string]*cell) *value {
	if r.fuel--; r.fuel < 0 {
		panic(stop("fuel"))
	}
	switch e.Kind {
	case api.EVar:
		return r.force(at[e.Text])
	case api.EApp:
		return r.apply(r.term(e.A[0], at), r.arguments(e.A[1:], at))
	case api.EIf:
		if isFalse(r.term(e.A[0], at)) {
			return r.term(e.A[2], at)
		}
		return r.term(e.A[1], at)
	case api.ELet:
		cells := []*cell{}
		for i := range e.Names {
			cells = append(cells, &cell{e: e.A[i]})
		}
		at = with(at, e.Names, cells)
		for _, c := range cells {
			c.at = at
		}
		return r.term(e.A[len(e.Names)], at)
	case api.EPrim:
		return r.primitive(e, at)
	}
	return &value{e: e, at: at}
}

// apply gives f the cells, one by one.
func (r *reckoner) apply(f *value, cells []*cell) *value {
	if f.e.Kind != api.ELam {
		panic(stop("apply"))
	}
	all, n := slices.Concat(f.cells, cells), len(f.e.Names)
	if len(all) < n {
		return &value{f.e, f.at, all}
	}
	v := r.term(f.e.A[0], with(f.at, f.e.Names, all))
	if len(all) > n {
		return r.apply(v, all[n:])
	}
	return v
}

func number(v *value) int {
	n, err := strconv.Atoi(v.e.Text)
	if v.e.Kind != api.EInt || err != nil {
		panic(stop("number"))
	}
	return n
}

func truth(is bool) *value {
	return &value{e: api.Expr{Kind: api.EBool, Text: map[bool]string{false: "#f", true: "#t"}[is]}}
}

func (r *reckoner) primitive(e api.Expr, at map[string]*cell) *value {
	if e.Text == "cons" {
		return &value{e: e, cells: r.arguments(e.A, at)}
	}
	a := r.term(e.A[0], at)
	numbers := slices.Contains([]string{"+", "-", "*", "<", "="}, e.Text)
	if numbers {
		number(a)
	}
	if len(e.A) == 1 {
		return r.one(e.Text, a)
	}
	b := r.term(e.A[1], at)
	if numbers {
		return r.two(e.Text, number(a), number(b))
	}
	if e.Text == "seq" {
		return b
	}
	return truth(slices.Contains([]int{api.EInt, api.ESym, api.EBool, api.ENil}, a.e.Kind) && a.e.Kind == b.e.Kind && a.e.Text == b.e.Text)
}

func (r *reckoner) two(name string, a, b int) *value {
	switch name {
	case "<":
		return truth(a < b)
	case "=":
		return truth(a == b)
	case "+":
		a += b
	case "-":
		a -= b
	case "*":
		a *= b
	}
	return &value{e: integer(strconv.Itoa(a))}
}

func (r *reckoner) one(name string, a *value) *value {
	pair := a.e.Kind == api.EPrim
	switch name {
	case "not":
		return truth(isFalse(a))
	case "pair?":
		return truth(pair)
	case "null?":
		return truth(a.e.Kind == api.ENil)
	}
	if !pair {
		panic(stop("pair"))
	}
	if name == "car" {
		return r.force(a.cells[0])
	}
	return r.force(a.cells[1])
}

func (r *reckoner) print(v *value) {
	if r.text.Len() > 500 {
		panic(stop("long"))
	}
	switch v.e.Kind {
	case api.ELam:
		r.text.WriteString("#<function>")
	case api.EPrim:
		r.text.WriteString("(")
		r.print(r.force(v.cells[0]))
		r.text.WriteString(" . ")
		r.print(r.force(v.cells[1]))
		r.text.WriteString(")")
	case api.ENil:
		r.text.WriteString("()")
	default:
		r.text.WriteString(v.e.Text)
	}
}

// outcome is what e comes to, where input is the list of 7 and -3.
func outcome(e api.Expr, fuel int) (text string) {
	r := reckoner{fuel: fuel}
	defer func() {
		if why := recover(); why != nil {
			text = "! " + string(why.(stop))
		}
	}()
	pair := func(n string, e api.Expr) api.Expr { return prim("cons", integer(n), e) }
	input := &cell{e: pair("7", pair("-3", api.Expr{Kind: api.ENil}))}
	r.print(r.term(e, map[string]*cell{"input": input}))
	return r.text.String()
}

// whole is p as one term.
func whole(p api.Prog) api.Expr {
	if len(p.Sups) == 0 {
		return p.Main
	}
	e := api.Expr{Kind: api.ELet}
	for _, sup := range p.Sups {
		e.Names = append(e.Names, sup.Name)
		e.A = append(e.A, lambda(sup.Body, sup.Params...))
	}
	e.A = append(e.A, p.Main)
	return e
}

// checkMeans holds what e comes to against what it comes to when it is lifted.
func checkMeans(t *testing.T, e api.Expr) string {
	t.Helper()
	const fuel = 400
	want := outcome(e, fuel)
	if want == "! fuel" {
		return want
	}
	p := lift.Lift(e)
	if got := outcome(whole(p), 20*fuel); got != want {
		t.Fatalf("P903, T3: %s comes to %s; lifted to %s it comes to %s", core.Text(e), want, lift.Text(p), got)
	}
	return want
}

// texts are programs, and what they come to.
func texts() [][2]string {
	return [][2]string{
		{"(define (f n) (if (= n 0) 1 (* n (f (- n 1))))) (f 10)", "3628800"},
		{"(define (even n) (if (= n 0) #t (odd (- n 1)))) (define (odd n) (if (= n 0) #f (even (- n 1)))) (cons (even 7) (odd 7))", "(#f . #t)"},
		{"(define (f x y) (letrec ((g (lambda (n) (if (= n 0) x (h (- n 1))))) (h (lambda (n) (if (= n 0) y (g (- n 1)))))) (cons (g 5) (h 5)))) (f 1 2)", "(2 . 1)"},
		{"(define (map f l) (if (null? l) l (cons (f (car l)) (map f (cdr l))))) (define (add k) (lambda (x) (+ x k))) (map (add 10) input)", "(17 . (7 . ()))"},
		{"(define (compose f g) (lambda (x) (f (g x)))) (define (twice f) (compose f f)) ((twice (twice (lambda (x) (+ x (car input))))) 0)", "28"},
		{"(((lambda (f) ((lambda (x) (f (x x))) (lambda (x) (f (x x))))) (lambda (fact) (lambda (n) (if (= n 0) 1 (* n (fact (- n 1))))))) 5)", "120"},
		{"(define (take n l) (if (= n 0) '() (cons (car l) (take (- n 1) (cdr l))))) (define (from n) (cons n (from (+ n 1)))) (take 3 (from 5))", "(5 . (6 . (7 . ())))"},
		{"(letrec ((l (cons 1 (cons 2 l)))) (car (cdr (cdr l))))", "1"},
		{"(letrec ((k 5) (f (lambda (x) (if (< k x) x (g (+ x 1))))) (g (lambda (x) (f (+ x k))))) (f 0))", "6"},
		{"(let ((a 1)) (letrec ((f (lambda (b) (letrec ((g (lambda (c) (letrec ((h (lambda (d) (if (= d 0) (cons a (cons b c)) (f (- d 1)))))) h)))) (g 3))))) ((f 2) 2)))", "#<function>"},
		{"(letrec ((x (f 1)) (f (lambda (y) x))) x)", "! loop"},
		{"(define (f x) (lambda (y) (x y))) ((f car) 1)", "! pair"},
		{"(define (f x) (lambda (y) (+ x y))) ((f 'a) 1)", "! number"},
		{"(define (f x y) (let ((g (lambda (z) (y z)))) (g x))) (f 1 2)", "! apply"},
	}
}

// TestTexts: what is read and lifted means what it meant, whether its arguments had names ahead or not.
func TestTexts(t *testing.T) {
	for _, c := range texts() {
		l, _, _ := read.Read(c[0])
		e, _, err := expand.Expand(l)
		if err != api.OK {
			t.Fatalf("%s: %v", c[0], err)
		}
		for _, e := range []api.Expr{e, norm.Norm(e)} {
			if got := checkMeans(t, e); got != c[1] {
				t.Errorf("T3: %s comes to %s, not %s", c[0], got, c[1])
			}
			checkLifted(t, e)
		}
	}
}

// TestManyMeans: of terms of all kinds, those that come to nothing too.
func TestManyMeans(t *testing.T) {
	m, count := newMaker(3), map[string]int{}
	for range 12000 {
		m.clear()
		got := checkMeans(t, m.term(2+m.Intn(6), nil))
		if !strings.HasPrefix(got, "!") {
			got = "printed"
		}
		count[got]++
	}
	for _, c := range []struct {
		what string
		want int
	}{{"printed", 5000}, {"! apply", 500}, {"! pair", 100}, {"! number", 100}, {"! loop", 100}} {
		if count[c.what] < c.want {
			t.Errorf("only %d of %s", count[c.what], c.what)
		}
	}
}
