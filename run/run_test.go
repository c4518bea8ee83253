package run_test

import (
	"reflect"
	"strings"
	"testing"

	"thunk/api"
	"thunk/expand"
	"thunk/lift"
	"thunk/machine"
	"thunk/norm"
	"thunk/read"
	"thunk/run"
)

// The bounds of what a run is given.
const (
	maxHeap = 1000000
	maxFuel = 10000000
)

// layered is what Compile must answer: what each layer answers, one after the other.
func layered(src string) (api.Prog, int, api.Errno) {
	l, at, e := read.Read(src)
	if e != api.OK {
		return api.Prog{}, at, e
	}
	term, at, e := expand.Expand(l)
	if e != api.OK {
		return api.Prog{}, at, e
	}
	return lift.Lift(norm.Norm(term)), 0, api.OK
}

// compiled checks Compile, and answers what it does.
func compiled(t *testing.T, src string) (api.Prog, int, api.Errno) {
	t.Helper()
	p, at, e := run.Compile(src)
	want, wantAt, wantE := layered(src)
	if !reflect.DeepEqual(p, want) || at != wantAt || e != wantE {
		t.Fatalf("P1401: Compile is %v at %d, not %v at %d, of %s\n%s", e, at, wantE, wantAt, src, lift.Text(p))
	}
	if e != api.OK && (p.Sups != nil || !reflect.DeepEqual(p.Main, api.Expr{})) {
		t.Fatalf("P4: a program beside %v of %s", e, src)
	}
	if e == api.OK && !lift.Right(p) {
		t.Fatalf("P903: no program, of %s\n%s", src, lift.Text(p))
	}
	return p, at, e
}

// checkRun checks Run, and answers what it does.
func checkRun(t *testing.T, src string, c api.Config) api.Outcome {
	t.Helper()
	p, at, e := compiled(t, src)
	want := api.Outcome{Kind: api.Rejected, Text: e.Error(), At: at}
	if e == api.OK {
		want, _ = machine.Run(p, c)
	}
	o := run.Run(src, c)
	if o != want {
		c.Gc = c.Gc[:min(len(c.Gc), 20)]
		t.Fatalf("P1402: Run is %v, not %v, with %+v, of\n%s", o, want, c, src)
	}
	return o
}

// enough is as much as may be of all.
func enough(input ...string) api.Config {
	return api.Config{Heap: maxHeap, Fuel: maxFuel, Input: input}
}

// TestCompile: what texts are as programs.
func TestCompile(t *testing.T) {
	for _, c := range [][2]string{
		{"5", "5\n"},
		{" ; a remark\n #f", "#f\n"},
		{"'()", "()\n"},
		{"'a", "'a\n"},
		{"input", "input\n"},
		{"(+ 1 2)", "(+ 1 2)\n"},
		{"(cons (+ 1 2) '(3))", "(let ((%.1 (+ 1 2))) (let ((%.2 (cons 3 ()))) (cons %.1 %.2)))\n"},
		{"(lambda (x) x)", "%l.1 x.1 = x.1\n%l.1\n"},
		{"+", "%l.1 a.1 a.2 = (+ a.1 a.2)\n%l.1\n"},
		{"(define x 1) x", "(let ((x.1 1)) x.1)\n"},
		{"(define (f x) (f x)) (f 1)", "f.1 x.2 = (f.1 x.2)\n(f.1 1)\n"},
		{"(define (f x) (lambda (y) (+ x y))) ((f 1) (f 2 3))", "f.1 x.2 = (%l.1 x.2)\n%l.1 x.2 y.3 = (+ x.2 y.3)\n(let ((%.1 (f.1 2 3))) ((f.1 1) %.1))\n"},
		{"(define (f x) (letrec ((g (lambda (y) (if x (g y) y)))) g)) (f #t (car input))", "f.1 x.2 = (g.3 x.2)\ng.3 x.2 y.4 = (if x.2 (g.3 x.2 y.4) y.4)\n(let ((%.1 (car input))) (f.1 #t %.1))\n"},
		{"(define-syntax or (syntax-rules () ((_ a b) (let ((t a)) (if t t b))))) (lambda (t) (or (t 1) (cons t 2)))", "%l.1 t.1 = (let ((t.2 (t.1 1))) (if t.2 t.2 (cons t.1 2)))\n%l.1\n"},
		{"(define-syntax two (syntax-rules () ((_ f) (lambda (x) (f (f x)))))) ((two (two not)) #f)", "%l.1 x.1 = (let ((%.1 (%l.2 x.1))) (%l.3 %.1))\n%l.2 x.3 = (not (not x.3))\n%l.3 x.2 = (not (not x.2))\n(%l.1 #f)\n"},
	} {
		p, _, e := compiled(t, c[0])
		if got := lift.Text(p); e != api.OK || got != c[1] {
			t.Errorf("P1401: Compile(%s) is %v\n%s, not\n%s", c[0], e, got, c[1])
		}
	}
}

// rejected are texts that are no programs, @ where that is told, and why. What reading tells comes first, then what a text's data are told from the first on.
func rejected() [][2]string {
	deep := strings.Repeat("(", 60)
	far := strings.Repeat("(car ", 59)
	const m = "(define-syntax m (syntax-rules () ((_ x) (m (x x))) ((_) nobody))) "
	return [][2]string{
		{"@" + strings.Repeat(" ", api.MaxSource+1), "long"}, {"@" + strings.Repeat("(", api.MaxSource+1), "long"},
		{"@#", "token"}, {"@#x 1", "token"}, {"(car @A)", "token"}, {"@1x", "token"}, {"@" + strings.Repeat("7", api.MaxDigits+1), "token"}, {"(car (f @\x00", "token"}, {"\n\t@\"x\"", "token"}, {"@é", "token"},
		{"@)", "close"}, {"(+ 1 2)@)", "close"}, {"(car '@)", "close"}, {"(f) @) #", "close"},
		{"(@", "end"}, {"(car (cdr 1)@", "end"}, {"'@", "end"}, {"(f ; )@", "end"}, {"((f) (g@", "end"},
		{deep + "@(", "deep"}, {deep + "@'1", "deep"}, {deep + "@(" + strings.Repeat(")", 61), "deep"},
		{"@", "form"}, {"@; nothing", "form"}, {"@()", "form"}, {"@(f)", "form"}, {"@1 2", "form"}, {"@(define x 1)", "form"}, {"@(define) 1", "form"}, {"(define (f x) x) @if", "form"}, {"@(if 1 2)", "form"}, {"(car @lambda)", "form"}, {"(car @(quote))", "form"}, {"(define-syntax x @5) 1", "form"}, {"(define-syntax x (syntax-rules () @((_ ...) 1))) 1", "form"}, {m + "(car @m)", "form"}, {"(define x 1) @(define y 2)", "form"},
		{"@x", "name"}, {"(@f 1)", "name"}, {"(+ 1 @nothing)", "name"}, {"(define (f x) @y) (f 1)", "name"}, {"(let ((x @x)) x)", "name"}, {m + "(car @(m))", "name"}, {"(car @else)", "name"},
		{"(define x 1) (define @x 2) x", "twice"}, {"(lambda (x y @x) x)", "twice"}, {"(let ((x 1) (@x 2)) x)", "twice"}, {"(define (f x @x) y) (f 1)", "twice"}, {"(define-syntax x (syntax-rules () @((_ y y) 1))) x", "twice"},
		{m + "@(m 1 2)", "match"}, {m + "(+ @(m 1 2) (m))", "match"},
		{"(define-syntax m (syntax-rules () ((_ x) (m (x))))) (car @(m 1))", "deep"}, {"(car @'(" + strings.Repeat("1 ", 300) + "))", "deep"},
		{"(define-syntax m (syntax-rules () ((_ x) (m (x x x))))) @(m 1)", "limit"}, {"(define-syntax two (syntax-rules () ((_ x y ...) (+ (two y ...) (two y ...))) ((_) 1))) @(two " + strings.Repeat("1 ", 11) + ")", "limit"},
		{far + "@x" + strings.Repeat(")", 59), "name"},
	}
}

// split is a text without its @, and where that stands.
func split(s string) (src string, at int) {
	at = strings.IndexByte(s, '@')
	return s[:at] + s[at+1:], at
}

// TestRejected: read.Read's and expand.Expand's errors, with their places; whatever else a run is given, and with no words and no steps.
func TestRejected(t *testing.T) {
	count := map[string]int{}
	for _, c := range rejected() {
		src, at := split(c[0])
		count[c[1]]++
		if _, gotAt, e := compiled(t, src); e.Error() != c[1] || gotAt != at {
			t.Errorf("P1401: Compile(%s) is %v at %d, not %s at %d", src[:min(len(src), 200)], e, gotAt, c[1], at)
		}
		for _, config := range []api.Config{{}, enough("1", "2"), {Heap: 10, Early: true, Gc: []int{1}}} {
			if o := checkRun(t, src, config); o != (api.Outcome{Kind: api.Rejected, Text: c[1], At: at}) {
				t.Errorf("P1402: Run(%s) is %v, not %s at %d", src[:min(len(src), 200)], o, c[1], at)
			}
		}
	}
	for _, word := range strings.Fields("long token close end deep form name twice match limit") {
		if count[word] == 0 {
			t.Errorf("none is rejected by %s", word)
		}
	}
}

// TestExample: what the chapter says.
func TestExample(t *testing.T) {
	if o := run.Run("", api.Config{}); o != (api.Outcome{Kind: api.Rejected, Text: "form"}) {
		t.Errorf("P1402: Run of no text is %v", o)
	}
	if p, at, e := run.Compile(""); e != api.ErrForm || at != 0 || !reflect.DeepEqual(p, api.Prog{}) {
		t.Errorf("P1401: Compile of no text is %v at %d", e, at)
	}
}

// TestLength: 8000 bytes are read, one more is not.
func TestLength(t *testing.T) {
	src := "(+ 1 2)" + strings.Repeat(" ", api.MaxSource-7)
	if o := checkRun(t, src, enough()); o != (api.Outcome{Kind: api.Printed, Text: "3"}) {
		t.Errorf("P1402: Run of %d bytes is %v", len(src), o)
	}
	if o := checkRun(t, src+" ", enough()); o != (api.Outcome{Kind: api.Rejected, Text: "long"}) {
		t.Errorf("P1402: Run of %d bytes is %v", len(src)+1, o)
	}
}
