package run_test

import (
	"runtime/debug"
	"strconv"
	"strings"
	"testing"

	"thunk/api"
	"thunk/lift"
	"thunk/run"
)

// smallStack has calls within calls end early, till the test does.
func smallStack(t *testing.T) {
	before := debug.SetMaxStack(8 << 20)
	t.Cleanup(func() { debug.SetMaxStack(before) })
}

// double hands k a list of what it is given, doubled as often as there are 1 in the first one.
const double = "(define-syntax double (syntax-rules () ((_ () k (x ...)) (k (x ...))) ((_ (n m ...) k (x ...)) (double (m ...) k (x ... x ...))))) "

// checkLarge holds runs of s, with much of all, against what it must come to.
func checkLarge(t *testing.T, s, want string) {
	t.Helper()
	smallStack(t)
	for _, c := range []api.Config{{}, {Early: true}, {Gc: []int{1, 2, 1000}}} {
		c.Heap, c.Fuel, c.Input = maxHeap, maxFuel, []string{"7", "-3"}
		if o := run.Run(s, c); o != outcome(want) && (want != "! heap" || o != api.Outcome{Kind: api.NoHeap}) {
			t.Errorf("P1402: Run is %v, not %s, of a large one: %s", o, want, s[:min(len(s), 300)])
		}
	}
}

// TestWide: as many arguments, definitions, names and data as a text has room for.
func TestWide(t *testing.T) {
	ones := strings.Repeat(" 1", 3980)
	checkLarge(t, "(define (f x) f) (f"+ones+")", "#<function>")
	checkLarge(t, "(define (f x) f) (f"+strings.Repeat(" +", 3980)+")", "#<function>")
	checkLarge(t, "(define (f x) f) (f"+strings.Repeat("(f 1)", 1590)+")", "#<function>")
	checkLarge(t, "(define (f x) f) (f"+strings.Repeat("'(1)", 1980)+")", "#<function>")
	checkLarge(t, strings.Repeat(" ", 7999)+"5", "5")
	s, names, sum := "", "", "0"
	for i := range 180 {
		s += "(define (f" + strconv.Itoa(i) + " x) (f" + strconv.Itoa(max(i-1, 0)) + " (+ x 1)))"
	}
	checkLarge(t, strings.Replace(s, "(f0 (+ x 1))", "x", 1)+"(f179 0)", "179")
	for i := range 55 {
		names += " x" + strconv.Itoa(i)
		sum = "(+ x" + strconv.Itoa(i) + " " + sum + ")"
	}
	checkLarge(t, "((lambda ("+names[1:]+") "+sum+")"+strings.Repeat(" (car input)", 55)+")", "385")
	checkLarge(t, "(define (f "+names[1:]+") (lambda (y) (+ y "+sum+"))) (f"+strings.Repeat(" (car input)", 55)+" 1)", "386")
	checkLarge(t, strings.Repeat("(car ", 59)+"5"+strings.Repeat(")", 59), "! pair")
	checkLarge(t, strings.Repeat("(let ((x 1)) ", 58)+"x"+strings.Repeat(")", 58), "1")
	checkLarge(t, "(define (f g) g) ("+strings.Repeat("(f ", 58)+"+"+strings.Repeat(")", 58)+" 1 2)", "3")
}

// TestGreat: what rules make of a short text is as great as it may be, and is run.
func TestGreat(t *testing.T) {
	const f = "(define (f x) f) (define-syntax go (syntax-rules () ((_ (x ...)) (f x ...)))) "
	row := strings.Repeat("1 ", 7)
	checkLarge(t, double+f+"(double ("+row+") go ("+strings.Repeat("(f 1) ", 51)+"))", "#<function>")
	checkLarge(t, double+f+"(double ("+row+") go ("+strings.Repeat("+ ", 150)+"))", "#<function>")
	checkLarge(t, double+f+"(double ("+row+") go ("+strings.Repeat("1 ", 155)+"))", "#<function>")
	const sum = "(define-syntax go (syntax-rules () ((_ (x ...)) (sum x ...)))) (define-syntax sum (syntax-rules () ((_) 0) ((_ a b c d e f g h x ...) (+ (+ (+ a b) (+ c d)) (+ (+ (+ e f) (+ g h)) (sum x ...)))))) "
	checkLarge(t, double+sum+"(double (1 1 1) go ("+strings.Repeat("(car input) ", 50)+"))", "2800")
	if o := run.Run(double+f+"(double ("+row+") go ("+strings.Repeat("1 ", 157)+"))", enough()); o.Kind != api.Rejected || o.Text != "limit" {
		t.Errorf("P1402: what is too great comes to %v", o)
	}
}

// levels is a text that rules make a term of in which so many applications, of so many arguments each, stand in one another.
func levels(deep, wide int, argument string) string {
	return double + "(define (f x) f) (define-syntax levels (syntax-rules () ((_ () (a ...)) 1) ((_ (n m ...) (a ...)) (f a ... (levels (m ...) (a ...)))))) (define-syntax go (syntax-rules () ((_ (x ...)) (levels (" + strings.Repeat("1 ", deep) + ") (x ...))))) (double (1 1 1 1 1 1) go (" + strings.Repeat(argument+" ", wide) + "))"
}

// TestLong: P1, T7: a short text's program may be a chain of very many lets: none of it is gone through by calls within calls.
func TestLong(t *testing.T) {
	checkLarge(t, levels(24, 50, "(f 1)"), "#<function>")
	checkLarge(t, levels(8, 150, "car"), "#<function>")
	smallStack(t)
	p, _, e := run.Compile(levels(24, 50, "(f 1)"))
	if n := strings.Count(lift.Text(p), "let"); e != api.OK || n != 24*50*64+23 || !lift.Right(p) {
		t.Errorf("P1401: Compile of a long one is %v, %d lets", e, n)
	}
}

// TestDeep: rules within rules, as deep as may be, and as many steps.
func TestDeep(t *testing.T) {
	const chain = "(define-syntax chain (syntax-rules () ((_ x) x) ((_ y x ...) (+ y (chain x ...))))) "
	checkLarge(t, chain+"(chain "+strings.Repeat("1 ", 150)+")", "150")
	if o := run.Run(chain+"(chain "+strings.Repeat("1 ", 151)+")", enough()); o.Text != "deep" || o.At != len(chain) {
		t.Errorf("P1402: what is too deep comes to %v", o)
	}
	checkLarge(t, "(define-syntax one (syntax-rules () ((_) 1))) (define (f x) f) (f"+strings.Repeat("(one)", 1570)+")", "#<function>")
	const nest = "(define-syntax nest (syntax-rules () ((_ x) 1) ((_ x z y ...) (nest " + "((((((((((((((((((((((((((((((x))))))))))))))))))))))))))))))" + " y ...)))) "
	checkLarge(t, nest+"(nest 1 "+strings.Repeat("1 ", 280)+")", "1")
	checkLarge(t, "(define-syntax list (syntax-rules () ((_) '()) ((_ a b ...) (cons a (list b ...))))) (list "+strings.Repeat("1 ", 140)+")", "("+strings.Repeat("1 ", 139)+"1)")
}
