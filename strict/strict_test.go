package strict_test

import (
	"slices"
	"strings"
	"testing"

	"thunk/api"
	"thunk/core"
	"thunk/strict"
)

func integer(text string) api.Expr { return api.Expr{Kind: api.EInt, Text: text} }

func variable(name string) api.Expr { return api.Expr{Kind: api.EVar, Text: name} }

func app(parts ...api.Expr) api.Expr { return api.Expr{Kind: api.EApp, A: parts} }

func prim(text string, parts ...api.Expr) api.Expr {
	return api.Expr{Kind: api.EPrim, Text: text, A: parts}
}

// let is a let of one name.
func let(name string, value, body api.Expr) api.Expr {
	return api.Expr{Kind: api.ELet, Names: []string{name}, A: []api.Expr{value, body}}
}

// term is the term of that core.Text.
func term(t *testing.T, s string) api.Expr {
	t.Helper()
	words := strings.Fields(strings.NewReplacer("(", " ( ", ")", " ) ").Replace(s))
	e, rest := take(words)
	if len(rest) > 0 || !core.Right(e) || core.Text(e) != s {
		t.Fatalf("%s is no term's text", s)
	}
	return e
}

// take takes a term from the words.
func take(words []string) (api.Expr, []string) {
	word, words := words[0], words[1:]
	switch {
	case word == "(":
		return takeForm(words)
	case word[0] == '#':
		return api.Expr{Kind: api.EBool, Text: word}, words
	case word[0] == '\'':
		return api.Expr{Kind: api.ESym, Text: word[1:]}, words
	case strings.Trim(word, "-0123456789") == "" && word != "-":
		return integer(word), words
	}
	return variable(word), words
}

// takeForm takes a form whose bracket is taken.
func takeForm(words []string) (e api.Expr, rest []string) {
	switch word := words[0]; {
	case word == ")":
		return api.Expr{Kind: api.ENil}, words[1:]
	case word == "lambda":
		e.Kind = api.ELam
		for words = words[2:]; words[0] != ")"; words = words[1:] {
			e.Names = append(e.Names, words[0])
		}
		words = words[1:]
	case word == "let":
		e.Kind = api.ELet
		for words = words[2:]; words[0] != ")"; words = words[1:] {
			var value api.Expr
			e.Names = append(e.Names, words[1])
			value, words = take(words[2:])
			e.A = append(e.A, value)
		}
		words = words[1:]
	case word == "if":
		e.Kind, words = api.EIf, words[1:]
	case core.Arity(word) > 0:
		e.Kind, e.Text, words = api.EPrim, word, words[1:]
	default:
		e.Kind = api.EApp
	}
	for words[0] != ")" {
		var part api.Expr
		part, words = take(words)
		e.A = append(e.A, part)
	}
	return e, words[1:]
}

// needs is of a text such as "f:10 g:1": 1 is a parameter that a function must have.
func needs(s string) (l []strict.Need) {
	for _, word := range strings.Fields(s) {
		name, digits, _ := strings.Cut(word, ":")
		need := strict.Need{Name: name}
		for _, digit := range digits {
			need.Of = append(need.Of, digit == '1')
		}
		l = append(l, need)
	}
	return l
}

// needsText is needs, backwards.
func needsText(l []strict.Need) string {
	var words []string
	for _, need := range l {
		word := need.Name + ":"
		for _, is := range need.Of {
			if is {
				word += "1"
			} else {
				word += "0"
			}
		}
		words = append(words, word)
	}
	return strings.Join(words, " ")
}

// demandsText tells what Demands answers: the names, or "all".
func demandsText(t *testing.T, e api.Expr, l []strict.Need) string {
	t.Helper()
	names, all := strict.Demands(e, l)
	switch {
	case all && len(names) > 0:
		t.Errorf("P801: Demands(%s) is all, and names %q", core.Text(e), names)
	case all:
		return "all"
	case !slices.IsSorted(names) || len(slices.Compact(slices.Clone(names))) < len(names):
		t.Errorf("P801, W5: Demands(%s) is %q", core.Text(e), names)
	}
	return strings.Join(names, " ")
}

// asks is what is known, a term, and what that demands.
type asks struct{ known, s, want string }

func checkAsks(t *testing.T, all []asks) {
	t.Helper()
	for _, c := range all {
		if got := demandsText(t, term(t, c.s), needs(c.known)); got != c.want {
			t.Errorf("P801: Demands(%s, %s) is %q, not %q", c.s, c.known, got, c.want)
		}
	}
}

func TestNothing(t *testing.T) {
	for _, s := range []string{
		"0", "-12", "#t", "#f", "()", "'x", "(lambda (x) x)", "(lambda (x) (f y))", "(lambda (x) (error x))",
		"(cons x y)", "(cons (car x) (f y))", "(cons (error x) (error y))", "(let ((x y)) 1)", "(let ((x (error y))) (cons x z))", "(if 1 2 3)", "(+ 1 2)",
	} {
		names, all := strict.Demands(term(t, s), needs("f:1 x:1"))
		if len(names) > 0 || all {
			t.Errorf("P801: Demands(%s) is %q, %v", s, names, all)
		}
	}
}

func TestPrimitives(t *testing.T) {
	for _, name := range strings.Fields("+ - * quotient remainder < = eq? seq") {
		checkAsks(t, []asks{
			{"", "(" + name + " x y)", "x y"}, {"", "(" + name + " y x)", "x y"}, {"", "(" + name + " x x)", "x"}, {"", "(" + name + " x 1)", "x"}, {"", "(" + name + " 1 x)", "x"},
			{"", "(" + name + " (cons a b) x)", "x"}, {"", "(" + name + " (+ a b) (* c a))", "a b c"}, {"", "(" + name + " (error 1) x)", "all"}, {"", "(" + name + " x (error y))", "all"},
		})
	}
	for _, name := range strings.Fields("car cdr null? pair? not integer? symbol?") {
		checkAsks(t, []asks{{"", "(" + name + " x)", "x"}, {"", "(" + name + " (cons x y))", ""}, {"", "(" + name + " (error x))", "all"}, {"", "(" + name + " (" + name + " x))", "x"}})
	}
	checkAsks(t, []asks{{"", "(error x)", "all"}, {"", "(error 1)", "all"}, {"", "(error (lambda (x) x))", "all"}})
}

// TestOrder: names in rising order of bytes, none twice.
func TestOrder(t *testing.T) {
	checkAsks(t, []asks{
		{"", "(+ (+ x.2 x.10) (+ x (+ - x.1)))", "- x x.1 x.10 x.2"},
		{"", "(+ (+ b a) (+ a (+ b a)))", "a b"},
		{"", "(seq zz (seq z (seq %p.1 input)))", "%p.1 input z zz"},
	})
}

func TestIf(t *testing.T) {
	checkAsks(t, []asks{
		{"", "(if a b c)", "a"}, {"", "(if a b b)", "a b"}, {"", "(if a a b)", "a"}, {"", "(if 1 a a)", "a"}, {"", "(if a 1 b)", "a"}, {"", "(if a b 1)", "a"},
		{"", "(if a (+ b c) (+ c d))", "a c"}, {"", "(if a (+ b c) (+ c b))", "a b c"}, {"", "(if (+ a b) (+ a c) (+ b c))", "a b c"},
		{"", "(if #t a b)", ""}, {"", "(if #f a b)", ""},
		{"", "(if a (error 1) b)", "a b"}, {"", "(if a b (error 1))", "a b"}, {"", "(if a (error 1) (error 2))", "all"}, {"", "(if (error 1) b c)", "all"}, {"", "(if a (error 1) 2)", "a"}, {"", "(if a 2 (error 1))", "a"},
		{"", "(if (if a b b) (if c d d) (if d c 1))", "a b d"}, {"", "(if a (if b (error 1) (error 2)) (+ c d))", "a c d"}, {"", "(if a (+ b (error 1)) c)", "a c"},
		{"", "(if (cons a b) (cons c c) (cons c c))", ""}, {"", "(if a (lambda (x) b) b)", "a"},
	})
}

func TestCalls(t *testing.T) {
	checkAsks(t, []asks{
		{"", "(f x)", "f"}, {"g:1", "(f x)", "f"}, {"f:1", "(f x)", "f x"}, {"f:0", "(f x)", "f"},
		{"f:10", "(f x y)", "f x"}, {"f:01", "(f x y)", "f y"}, {"f:11", "(f x y)", "f x y"}, {"f:00", "(f x y)", "f"}, {"f:101", "(f x y z)", "f x z"},
		// too few, too many
		{"f:11", "(f x)", "f"}, {"f:111", "(f x y)", "f"}, {"f:1", "(f x y)", "f x"}, {"f:01", "(f x y z)", "f y"}, {"f:", "(f x)", "f"},
		// what is called is a term
		{"f:1", "((f x) y)", "f x"}, {"f:11", "((f x) y)", "f"}, {"f:1", "((if a f f) x)", "a f"}, {"f:1", "((lambda (z) z) x)", ""}, {"f:1", "((let ((g f)) g) x)", "f"},
		{"", "((error x) y)", "all"}, {"", "((car x) y)", "x"}, {"", "((cons x y) z)", ""}, {"", "(1 x)", ""}, {"f:1", "('f x)", ""}, {"", "((if a b c) x)", "a"},
		// arguments are terms
		{"f:1", "(f (+ x y))", "f x y"}, {"f:1", "(f (cons x y))", "f"}, {"f:1", "(f (error 1))", "all"}, {"f:0", "(f (error 1))", "f"}, {"f:10", "(f x (error 1))", "f x"}, {"f:11", "(f (error 1))", "f"},
		{"f:1 g:01", "(f (g x y))", "f g y"}, {"f:1", "(f (f (f x)))", "f x"}, {"f:0", "(f (f (f x)))", "f"}, {"f:1", "(f f)", "f"}, {"f:11", "(f x x)", "f x"},
		// of several
		{"g:1 f:01 h:11", "(+ (f x y) (g z))", "f g y z"}, {"f:1", "(+ (f x) (g y))", "f g x"}, {"x:1", "(f x)", "f"}, {"x:1", "(f (x y))", "f"}, {"f.1:1", "(f x)", "f"},
		{"f:1", "(if a (f x) (+ x f))", "a f x"},
	})
}

func TestLets(t *testing.T) {
	checkAsks(t, []asks{
		{"", "(let ((x y)) x)", "y"}, {"", "(let ((x y)) 1)", ""}, {"", "(let ((x y)) z)", "z"}, {"", "(let ((x y)) (cons x x))", ""}, {"", "(let ((x y)) (lambda (z) x))", ""},
		{"", "(let ((x y)) (+ x z))", "y z"}, {"", "(let ((x (+ a b)) (y (+ c d))) x)", "a b"}, {"", "(let ((x (+ a b)) (y (+ c d))) y)", "c d"}, {"", "(let ((x (+ a b)) (y (+ c d))) (* x y))", "a b c d"},
		// as long as there are such
		{"", "(let ((x y) (y z)) x)", "z"}, {"", "(let ((y z) (x y)) x)", "z"}, {"", "(let ((a b) (b c) (c d) (d e)) a)", "e"}, {"", "(let ((d e) (c d) (b c) (a b)) a)", "e"}, {"", "(let ((a (+ b u)) (b (+ c v)) (c (+ d w)) (e q)) a)", "d u v w"},
		{"", "(let ((a (if u b b)) (b (cons c v)) (c w)) a)", "u"},
		// themselves
		{"", "(let ((x x)) x)", ""}, {"", "(let ((x (+ x y))) x)", "y"}, {"", "(let ((x (+ y a)) (y (+ x b))) x)", "a b"}, {"", "(let ((x (+ y a)) (y (+ x b))) (cons x y))", ""},
		// all
		{"", "(let ((x (error 1))) x)", "all"}, {"", "(let ((x (error 1))) y)", "y"}, {"", "(let ((x y) (y (error 1))) x)", "all"}, {"", "(let ((x y)) (error x))", "all"}, {"", "(let ((x y) (z (error 1))) x)", "y"},
		// one within another
		{"", "(let ((x y)) (let ((z x)) z))", "y"}, {"", "(let ((x (let ((z y)) z))) x)", "y"}, {"", "(let ((x y)) (let ((x z)) x))", "z"}, {"", "(+ (let ((x y)) x) x)", "x y"}, {"", "(+ x (let ((x y)) x))", "x y"}, {"", "(let ((x y)) (let ((y z)) x))", "y"},
		{"", "(let ((x (let ((x y)) x))) x)", "y"},
		// functions
		{"f:1", "(let ((x y)) (f x))", "f y"}, {"f:0", "(let ((x y)) (f x))", "f"}, {"f:1", "(let ((x (f y))) x)", "f y"}, {"f:01", "(let ((x y) (u v)) (f x u))", "f v"},
		{"f:1", "(let ((f (lambda (z) z))) (f x))", "x"}, {"", "(let ((f (lambda (z) z))) (f x))", ""}, {"f:1", "(let ((f g)) (f x))", "g x"}, {"", "(let ((f (g x))) (f y))", "g"},
		{"f:1", "(let ((f (lambda (z) (error z))) (x (f y))) x)", "y"},
	})
}

// TestKnown: a function counts wherever its name stands in l.
func TestKnown(t *testing.T) {
	e := term(t, "(+ (f x y) (g z))")
	for _, l := range []string{"f:01 g:1", "g:1 f:01", "h:1 g:1 x:1 f:01 y:0"} {
		if got := demandsText(t, e, needs(l)); got != "f g y z" {
			t.Errorf("P801: Demands(%s, %s) is %s", core.Text(e), l, got)
		}
	}
}

func TestNeeds(t *testing.T) {
	for _, c := range []struct{ s, want string }{
		{"1", ""}, {"x", ""}, {"(lambda (x) x)", ""}, {"(let ((x 1)) x)", ""}, {"(let ((f g)) (f 1))", ""}, {"((lambda (x) x) 1)", ""}, {"(let ((x (car (lambda (y) y)))) x)", ""},
		{"(let ((f (lambda (x) x))) 1)", "f:1"}, {"(let ((f (lambda (x) 1))) 1)", "f:0"}, {"(let ((f (lambda (x y) x))) 1)", "f:10"}, {"(let ((f (lambda (x y) y))) 1)", "f:01"}, {"(let ((f (lambda (x y z) (+ z x)))) 1)", "f:101"},
		{"(let ((f (lambda (x) (cons x x)))) 1)", "f:0"}, {"(let ((f (lambda (x y) (error x)))) 1)", "f:11"}, {"(let ((f (lambda (x y) (if x y 1)))) 1)", "f:10"}, {"(let ((f (lambda (x y) (if x y (error 1))))) 1)", "f:11"},
		{"(let ((f (lambda (x y) (x y)))) 1)", "f:10"}, {"(let ((f (lambda (x) (lambda (y) (+ x y))))) 1)", "f:0"}, {"(let ((f (lambda (x y) (let ((z x)) (+ z 1))))) 1)", "f:10"},
		// the greatest: what is called again needs what it is given, if nothing else tells
		{"(let ((f (lambda (x) (f x)))) 1)", "f:1"}, {"(let ((f (lambda (x y) (f x y)))) 1)", "f:11"}, {"(let ((f (lambda (x y) (f y x)))) 1)", "f:11"}, {"(let ((f (lambda (x y) (f x 1)))) 1)", "f:10"}, {"(let ((f (lambda (x y) (f 1 y)))) 1)", "f:01"},
		{"(let ((f (lambda (x y) (f x)))) 1)", "f:00"}, {"(let ((f (lambda (x) (f x x)))) 1)", "f:1"}, {"(let ((f (lambda (x) (f (f x))))) 1)", "f:1"}, {"(let ((f (lambda (x) (f 1)))) 1)", "f:0"},
		{"(let ((f (lambda (x y) (if x y (f x y))))) 1)", "f:11"}, {"(let ((f (lambda (x y) (if x 1 (f x y))))) 1)", "f:10"}, {"(let ((f (lambda (x y) (if x y (f y x))))) 1)", "f:11"}, {"(let ((f (lambda (x y z) (if x z (f y x z))))) 1)", "f:101"},
		{"(let ((sum (lambda (n s) (if (= n 0) s (sum (- n 1) (+ s n)))))) (sum 10 0))", "sum:11"}, {"(let ((f (lambda (n s) (if (= n 0) 1 (f (- n 1) (+ s n)))))) (f 10 0))", "f:10"},
		{"(let ((f (lambda (x y) (seq (error 1) (f y x))))) 1)", "f:11"}, {"(let ((f (lambda (x y) (f (error 1) x)))) 1)", "f:11"},
		// of one another, on both sides
		{"(let ((f (lambda (x) (g x))) (g (lambda (y) y))) 1)", "f:1 g:1"}, {"(let ((f (lambda (x) (g x))) (g (lambda (y) 1))) 1)", "f:0 g:0"}, {"(let ((g (lambda (y) 1)) (f (lambda (x) (g x)))) 1)", "g:0 f:0"}, {"(let ((f (lambda (x) (g x))) (g (lambda (y) (f y)))) 1)", "f:1 g:1"},
		{"(let ((a (lambda (x) (b x))) (b (lambda (y) (c y))) (c (lambda (z) (d z))) (d (lambda (w) 1))) 1)", "a:0 b:0 c:0 d:0"}, {"(let ((d (lambda (w) 1)) (c (lambda (z) (d z))) (b (lambda (y) (c y))) (a (lambda (x) (b x)))) 1)", "d:0 c:0 b:0 a:0"},
		{"(let ((even (lambda (n u) (if n 1 (odd n u)))) (odd (lambda (m v) (if m v (even m v))))) 1)", "even:10 odd:10"}, {"(let ((even (lambda (n u) (if n u (odd n u)))) (odd (lambda (m v) (if m v (even m v))))) 1)", "even:11 odd:11"},
		// the order in which they stand
		{"(let ((f (lambda (x) (let ((g (lambda (y) x))) (g 1)))) (h (lambda (z) z))) 1)", "f:0 h:1 g:0"}, {"(let ((f (lambda (x) x)) (v (let ((g (lambda (y) y))) 1)) (h (lambda (z) 1))) (let ((i (lambda (w) w))) 1))", "f:1 h:0 g:1 i:1"},
		{"(+ (let ((b (lambda (x) x))) 1) (let ((a (lambda (y) 1))) 1))", "b:1 a:0"}, {"(if (let ((a (lambda (x) x))) 1) (let ((b (lambda (y) 1))) 1) (let ((c (lambda (z) z))) 1))", "a:1 b:0 c:1"},
		{"(let ((a (lambda (x) (let ((b (lambda (y) (let ((c (lambda (z) z))) y)))) b))) (d (lambda (w) (let ((e (lambda (v) 1))) w)))) (let ((g (lambda (u) 1))) g))", "a:0 d:1 b:1 c:1 e:0 g:0"},
		{"((let ((f (lambda (x) x))) f) (let ((g (lambda (y) y))) g))", "f:1 g:1"}, {"(cons (let ((f (lambda (x) x))) f) (let ((g (lambda (y) y))) g))", "f:1 g:1"}, {"(lambda (w) (let ((f (lambda (x) x))) (f w)))", "f:1"},
		// a function within another one: what it is given, what it has from around
		{"(let ((f (lambda (x) (let ((g (lambda (y) y))) (g x))))) 1)", "f:1 g:1"}, {"(let ((f (lambda (x) (let ((g (lambda (y) 1))) (g x))))) 1)", "f:0 g:0"}, {"(let ((f (lambda (x z) (let ((g (lambda (y) (f y z)))) (g x))))) 1)", "f:10 g:1"},
		{"(let ((f (lambda (x) (car (lambda (y) (f x)))))) 1)", "f:0"}, {"(let ((f (lambda (x) (let ((v (f x))) v)))) 1)", "f:1"}, {"(let ((f (lambda (x) (let ((v (f x))) 1)))) 1)", "f:0"},
		// as a value it tells nothing
		{"(let ((f (lambda (x y) (x y))) (g (lambda (z) z))) (f g 1))", "f:10 g:1"}, {"(let ((f (lambda (x) ((if x f f) x)))) 1)", "f:1"}, {"(let ((f (lambda (x) (let ((g f)) (g x))))) 1)", "f:0"},
	} {
		if got := needsText(strict.Needs(term(t, c.s))); got != c.want {
			t.Errorf("P802: Needs(%s) is %s, not %s", c.s, got, c.want)
		}
	}
}
