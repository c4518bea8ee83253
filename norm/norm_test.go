package norm_test

import (
	"strings"
	"testing"

	"thunk/api"
	"thunk/core"
	"thunk/norm"
)

func integer(text string) api.Expr { return api.Expr{Kind: api.EInt, Text: text} }

func variable(name string) api.Expr { return api.Expr{Kind: api.EVar, Text: name} }

func app(parts ...api.Expr) api.Expr { return api.Expr{Kind: api.EApp, A: parts} }

func prim(text string, parts ...api.Expr) api.Expr {
	return api.Expr{Kind: api.EPrim, Text: text, A: parts}
}

// let is a let of one name.
func let(name string, value, body api.Expr) api.Expr {
	return api.Expr{Kind: api.ELet, Names: []string{name}, A: []api.Expr{value, body}}
}

// term is the term of that core.Text.
func term(t *testing.T, s string) api.Expr {
	t.Helper()
	words := strings.Fields(strings.NewReplacer("(", " ( ", ")", " ) ").Replace(s))
	e, rest := take(words)
	if len(rest) > 0 || !core.Right(e) || core.Text(e) != s {
		t.Fatalf("%s is no term's text", s)
	}
	return e
}

// take takes a term from the words.
func take(words []string) (api.Expr, []string) {
	word, words := words[0], words[1:]
	switch {
	case word == "(":
		return takeForm(words)
	case word[0] == '#':
		return api.Expr{Kind: api.EBool, Text: word}, words
	case word[0] == '\'':
		return api.Expr{Kind: api.ESym, Text: word[1:]}, words
	case strings.Trim(word, "-0123456789") == "" && word != "-":
		return integer(word), words
	}
	return variable(word), words
}

// takeForm takes a form whose bracket is taken.
func takeForm(words []string) (e api.Expr, rest []string) {
	switch word := words[0]; {
	case word == ")":
		return api.Expr{Kind: api.ENil}, words[1:]
	case word == "lambda":
		e.Kind = api.ELam
		for words = words[2:]; words[0] != ")"; words = words[1:] {
			e.Names = append(e.Names, words[0])
		}
		words = words[1:]
	case word == "let":
		e.Kind = api.ELet
		for words = words[2:]; words[0] != ")"; words = words[1:] {
			var value api.Expr
			e.Names = append(e.Names, words[1])
			value, words = take(words[2:])
			e.A = append(e.A, value)
		}
		words = words[1:]
	case word == "if":
		e.Kind, words = api.EIf, words[1:]
	case core.Arity(word) > 0:
		e.Kind, e.Text, words = api.EPrim, word, words[1:]
	default:
		e.Kind = api.EApp
	}
	for words[0] != ")" {
		var part api.Expr
		part, words = take(words)
		e.A = append(e.A, part)
	}
	return e, words[1:]
}

// normed are terms that Is is true of.
func normed() []string {
	return []string{
		"0", "-12", "#t", "#f", "()", "'a", "x", "%.1",
		"(f 1)", "(f -1 #t #f () 'a x)", "(() ())", "(1 2)",
		"(cons 1 x)", "(cons () 'a)", "(cons #t #f)",
		"((f x) 1)", "(((f x) y) z)", "((lambda (x) x) 1)", "((if a b c) x)", "((let ((f g)) f) x)", "((car x) y)", "((cons x y) z)",
		"(lambda (x) (lambda (y) x))", "(lambda (x) (x x))",
		"(if (f x) (g y) (cons 1 2))", "(if (if a b c) (lambda (x) x) (let ((x 1)) x))",
		"(let ((x (f 1)) (y (lambda (x) x))) (g x y))", "(let ((x (let ((y 1)) (cons y x)))) (let ((z x)) z))",
		"(+ (f x) (g y))", "(seq (cons 1 2) (car (f x)))", "(car (cons 1 2))", "(eq? (lambda (x) x) (if a b c))", "(error (cdr x))",
		"(let ((%.1 (g x))) (f %.1))", "(let ((%.1 (car x))) (let ((%.2 (cdr x))) (cons %.1 %.2)))",
	}
}

// TestNormed: an argument may be any atom, whatever it is that is called, and all else may be anything.
func TestNormed(t *testing.T) {
	for _, s := range normed() {
		e := term(t, s)
		if !norm.Is(e) {
			t.Errorf("P701: Is(%s) is false", s)
		}
		if got := norm.Norm(e); !alike(got, e) {
			t.Errorf("P702: Norm(%s) is %s", s, core.Text(got))
		}
	}
}

func TestNorm(t *testing.T) {
	for _, c := range []struct{ s, want string }{
		// each kind that is no atom
		{"(f (lambda (x) x))", "(let ((%.1 (lambda (x) x))) (f %.1))"},
		{"(f (g x))", "(let ((%.1 (g x))) (f %.1))"},
		{"(f (if a b c))", "(let ((%.1 (if a b c))) (f %.1))"},
		{"(f (let ((x 1)) x))", "(let ((%.1 (let ((x 1)) x))) (f %.1))"},
		{"(f (car x))", "(let ((%.1 (car x))) (f %.1))"},
		{"(f (cons 1 2))", "(let ((%.1 (cons 1 2))) (f %.1))"},
		// each place
		{"(f 1 (g x) y (h z) ())", "(let ((%.1 (g x))) (let ((%.2 (h z))) (f 1 %.1 y %.2 ())))"},
		{"(f (a x) (b x) (c x))", "(let ((%.1 (a x))) (let ((%.2 (b x))) (let ((%.3 (c x))) (f %.1 %.2 %.3))))"},
		{"(cons (car x) 1)", "(let ((%.1 (car x))) (cons %.1 1))"},
		{"(cons 1 (cdr x))", "(let ((%.1 (cdr x))) (cons 1 %.1))"},
		{"(cons (f x) (g x))", "(let ((%.1 (f x))) (let ((%.2 (g x))) (cons %.1 %.2)))"},
		{"((f x) (g x))", "(let ((%.1 (g x))) ((f x) %.1))"},
		// an argument's own parts ahead of it, it ahead of the next one
		{"(f (g (h x)))", "(let ((%.2 (let ((%.1 (h x))) (g %.1)))) (f %.2))"},
		{"(f (g (h x)) (i (j x)))", "(let ((%.2 (let ((%.1 (h x))) (g %.1)))) (let ((%.4 (let ((%.3 (j x))) (i %.3)))) (f %.2 %.4)))"},
		{"(cons 1 (cons 2 (cons 3 ())))", "(let ((%.2 (let ((%.1 (cons 3 ()))) (cons 2 %.1)))) (cons 1 %.2))"},
		{"(cons (cons (cons 1 2) 3) 4)", "(let ((%.2 (let ((%.1 (cons 1 2))) (cons %.1 3)))) (cons %.2 4))"},
		{"(f (lambda (x) (g (h x))))", "(let ((%.2 (lambda (x) (let ((%.1 (h x))) (g %.1))))) (f %.2))"},
		{"(f (car (cons (g x) 1)) (h x))", "(let ((%.2 (car (let ((%.1 (g x))) (cons %.1 1))))) (let ((%.3 (h x))) (f %.2 %.3)))"},
		// what is called is no argument, but its own arguments are, and get their names first
		{"((f (g x)) (h x))", "(let ((%.2 (h x))) ((let ((%.1 (g x))) (f %.1)) %.2))"},
		{"((lambda (x) (f (g x))) 1)", "((lambda (x) (let ((%.1 (g x))) (f %.1))) 1)"},
		{"((cons 1 (f x)) y)", "((let ((%.1 (f x))) (cons 1 %.1)) y)"},
		// one row of names for all, in all kinds of terms
		{"(if (f (g x)) (f (h x)) (f (i x)))", "(if (let ((%.1 (g x))) (f %.1)) (let ((%.2 (h x))) (f %.2)) (let ((%.3 (i x))) (f %.3)))"},
		{"(let ((a (f (g x))) (b (cons b (car a)))) (f (h x)))", "(let ((a (let ((%.1 (g x))) (f %.1))) (b (let ((%.2 (car a))) (cons b %.2)))) (let ((%.3 (h x))) (f %.3)))"},
		{"(+ (f (g x)) (- (f (h x)) 1))", "(+ (let ((%.1 (g x))) (f %.1)) (- (let ((%.2 (h x))) (f %.2)) 1))"},
		{"(lambda (x y) (lambda (z) (f (g x))))", "(lambda (x y) (lambda (z) (let ((%.1 (g x))) (f %.1))))"},
		{"(seq (f (g x)) (not (f (h x))))", "(seq (let ((%.1 (g x))) (f %.1)) (not (let ((%.2 (h x))) (f %.2))))"},
		// names that the term has already are not looked at
		{"(f %.1 (g %.2))", "(let ((%.1 (g %.2))) (f %.1 %.1))"},
		{"(let ((%.1 (g x))) (f %.1 (h x)))", "(let ((%.1 (g x))) (let ((%.1 (h x))) (f %.1 %.1)))"},
	} {
		e := term(t, c.s)
		if norm.Is(e) {
			t.Errorf("P701: Is(%s) is true", c.s)
		}
		got := norm.Norm(e)
		if core.Text(got) != c.want {
			t.Errorf("P701: Norm(%s) is %s, not %s", c.s, core.Text(got), c.want)
		}
		if !core.Right(got) || !norm.Is(got) || !alike(norm.Norm(got), got) {
			t.Errorf("P702: Norm(%s) is not normed", c.s)
		}
	}
}

// TestIsWithin: one argument counts, wherever it stands.
func TestIsWithin(t *testing.T) {
	for _, inner := range []string{"(f (g x))", "(f x (lambda (x) x))", "(cons (car x) 1)", "(cons 1 (if a b c))"} {
		for _, around := range []string{
			"*", "(lambda (x) *)", "(* x)", "(if * a b)", "(if a * b)", "(if a b *)", "(let ((v *)) v)", "(let ((v 1) (w *)) v)", "(let ((v 1)) *)", "(not *)", "(+ * 1)", "(+ 1 *)", "(lambda (x) (if a (let ((v (car *))) v) 1))", "((lambda (x) *) y)",
		} {
			s := strings.ReplaceAll(around, "*", inner)
			if norm.Is(term(t, s)) {
				t.Errorf("P701: Is(%s) is true", s)
			}
			if s = strings.ReplaceAll(around, "*", "(f x)"); !norm.Is(term(t, s)) {
				t.Errorf("P701: Is(%s) is false", s)
			}
		}
	}
}

// TestOtherPrimitives: of primitives, cons alone has arguments that must be atoms.
func TestOtherPrimitives(t *testing.T) {
	two := []string{"+", "-", "*", "quotient", "remainder", "<", "=", "eq?", "seq"}
	one := []string{"car", "cdr", "null?", "pair?", "not", "integer?", "symbol?", "error"}
	inner := app(variable("f"), variable("x"))
	for i, text := range append(two, one...) {
		e := prim(text, inner, inner)
		if i >= len(two) {
			e = prim(text, inner)
		}
		if !norm.Is(e) || !alike(norm.Norm(e), e) {
			t.Errorf("P701: Norm(%s) is %s", core.Text(e), core.Text(norm.Norm(e)))
		}
	}
}

// TestNamesStay: kinds count, not texts: a variable, a symbol or a name that is called cons is none.
func TestNamesStay(t *testing.T) {
	inner := app(variable("g"), variable("x"))
	lambda := api.Expr{Kind: api.ELam, Names: []string{"cons"}, A: []api.Expr{prim("+", inner, inner)}}
	for _, e := range []api.Expr{lambda, let("cons", inner, inner), app(variable("cons"), variable("cons")), {Kind: api.ESym, Text: "cons"}} {
		if !norm.Is(e) || !alike(norm.Norm(e), e) {
			t.Errorf("P701: Norm(%s) is %s", core.Text(e), core.Text(norm.Norm(e)))
		}
	}
	e := app(variable("cons"), inner, inner)
	if got := core.Text(norm.Norm(e)); got != "(let ((%.1 (g x))) (let ((%.2 (g x))) (cons %.1 %.2)))" {
		t.Errorf("P701: Norm(%s) is %s", core.Text(e), got)
	}
}
