package core_test

import (
	"reflect"
	"slices"
	"strings"
	"testing"

	"thunk/api"
	"thunk/core"
)

// integer .. prim are terms; names are parted by blanks.
func integer(text string) api.Expr { return api.Expr{Kind: api.EInt, Text: text} }

func boolean(text string) api.Expr { return api.Expr{Kind: api.EBool, Text: text} }

func none() api.Expr { return api.Expr{Kind: api.ENil} }

func symbol(text string) api.Expr { return api.Expr{Kind: api.ESym, Text: text} }

func variable(name string) api.Expr { return api.Expr{Kind: api.EVar, Text: name} }

func lambda(names string, body api.Expr) api.Expr {
	return api.Expr{Kind: api.ELam, Names: strings.Fields(names), A: []api.Expr{body}}
}

func app(parts ...api.Expr) api.Expr { return api.Expr{Kind: api.EApp, A: parts} }

func cond(parts ...api.Expr) api.Expr { return api.Expr{Kind: api.EIf, A: parts} }

func let(names string, parts ...api.Expr) api.Expr {
	return api.Expr{Kind: api.ELet, Names: strings.Fields(names), A: parts}
}

func prim(text string, parts ...api.Expr) api.Expr {
	return api.Expr{Kind: api.EPrim, Text: text, A: parts}
}

// primitives are those of each number of parts.
func primitives() [3][]string {
	return [3][]string{
		1: {"car", "cdr", "null?", "pair?", "not", "integer?", "symbol?", "error"},
		2: {"+", "-", "*", "quotient", "remainder", "<", "=", "eq?", "cons", "seq"},
	}
}

func TestArity(t *testing.T) {
	known := map[string]bool{}
	for n, texts := range primitives() {
		for _, text := range texts {
			known[text] = true
			if got := core.Arity(text); got != n {
				t.Errorf("P501: Arity(%q) is %d, not %d", text, got, n)
			}
		}
	}
	others := []string{"", " ", "/", "modulo", ">", "<=", ">=", "eq", "eqv?", "list", "null", "pair", "integer", "number?", "if", "let", "lambda", "quote", "input", "cadr", "Car", "errors", "1", "\xff"}
	for text := range known {
		others = append(others, text+" ", " "+text, text+text, text+"\x00", text[1:], text[:len(text)-1], strings.ToUpper(text)+"!")
	}
	for _, text := range others {
		if got := core.Arity(text); !known[text] && got != 0 {
			t.Errorf("P501: Arity(%q) is %d, not 0", text, got)
		}
	}
}

func checkRight(t *testing.T, e api.Expr, want bool) {
	t.Helper()
	if core.Right(e) != want {
		t.Errorf("P501: Right of %+v is not %v", e, want)
	}
}

// samples are right terms, at least two of each kind.
func samples() []api.Expr {
	x, y, one := variable("x"), variable("y"), integer("1")
	l := []api.Expr{
		integer("0"), integer("-7"), integer("10"), integer(strings.Repeat("9", api.MaxDigits)), integer("-" + strings.Repeat("9", api.MaxDigits)),
		boolean("#t"), boolean("#f"),
		none(), {Kind: api.ENil, Names: []string{}, A: []api.Expr{}},
		symbol("a"), symbol("#t"), symbol("-1"), symbol("a b"), symbol("("), symbol("\xff\x00"),
		x, variable("x.1"), variable("input"), variable("%p.1"), variable("if"), variable(" "),
		lambda("x", x), lambda("x y", none()), lambda("a b c d e", one), lambda("car if", x),
		app(x, y), app(one, none(), x, x, x), app(app(x, x), app(y, y)), app(none(), none()),
		cond(x, y, one), cond(boolean("#f"), cond(x, x, x), none()),
		let("x", one, x), let("x y z", y, z(), x, one), let("f", lambda("x", x), app(variable("f"), one)),
		let("x", let("x", one, x), lambda("x", x)),
	}
	for n, texts := range primitives() {
		for _, text := range texts {
			l = append(l, prim(text, slices.Repeat([]api.Expr{x}, n)...))
		}
	}
	return l
}

func z() api.Expr { return variable("z") }

func TestRight(t *testing.T) {
	l := samples()
	for _, e := range l {
		checkRight(t, e, true)
		checkRight(t, lambda("v", e), true)
	}
	checkRight(t, app(l...), true)
}

// wrongs are terms that are not right, each by one fault of its own.
func wrongs() []api.Expr {
	x, one := variable("x"), integer("1")
	l := []api.Expr{
		{}, {Kind: -1}, {Kind: 11}, {Text: "1"}, {Kind: 11, Text: "x"}, {Kind: -5, Text: "x"}, {Kind: 1 << 40, Text: "1"},
		integer(""), integer("-"), integer("-0"), integer("00"), integer("01"), integer("+1"), integer("1 "), integer("x"), integer("#t"), integer(strings.Repeat("9", api.MaxDigits+1)), integer("1" + strings.Repeat("0", api.MaxDigits)),
		boolean(""), boolean("#"), boolean("t"), boolean("#T"), boolean("#true"), boolean("#f "), boolean("1"),
		symbol(""), variable(""),
		{Kind: api.ENil, Text: "()"}, {Kind: api.ENil, Text: " "},
		lambda("", x), lambda("x x", x), lambda("x y z x", x), lambda("x y z y", x), {Kind: api.ELam, Names: []string{""}, A: []api.Expr{x}}, {Kind: api.ELam, Names: []string{"a", "", "b"}, A: []api.Expr{x}}, {Kind: api.ELam, Names: []string{"x"}}, {Kind: api.ELam, Names: []string{"x"}, A: []api.Expr{x, x}}, {Kind: api.ELam, Names: []string{"x", "y"}, A: []api.Expr{x, x, x}}, {Kind: api.ELam, Text: "lambda", Names: []string{"x"}, A: []api.Expr{x}},
		app(), app(x), {Kind: api.EApp, Text: "f", A: []api.Expr{x, x}}, {Kind: api.EApp, Names: []string{"f"}, A: []api.Expr{x, x}},
		cond(), cond(x), cond(x, x), cond(x, x, x, x), {Kind: api.EIf, Text: "if", A: []api.Expr{x, x, x}}, {Kind: api.EIf, Names: []string{""}, A: []api.Expr{x, x, x}},
		let(""), let("", x), let("x", x), let("x"), let("x", x, x, x), let("x y", x, x), let("x y", x, x, x, x), let("x x", x, x, x), let("x y x", x, x, x, x), {Kind: api.ELet, Names: []string{""}, A: []api.Expr{x, x}}, {Kind: api.ELet, Names: []string{"x", ""}, A: []api.Expr{x, x, x}}, {Kind: api.ELet, Text: "let", Names: []string{"x"}, A: []api.Expr{x, x}},
		prim(""), prim("", x), prim("", x, x), prim("f"), prim("f", x), prim("f", x, x), prim("list"), prim("if", x, x, x),
	}
	for n, texts := range primitives() {
		for _, text := range texts {
			l = append(l, prim(text), prim(text, slices.Repeat([]api.Expr{x}, 3-n)...), prim(text, x, x, x), api.Expr{Kind: api.EPrim, Text: text, Names: []string{"x"}, A: slices.Repeat([]api.Expr{x}, n)})
		}
	}
	for _, e := range []api.Expr{one, boolean("#t"), none(), symbol("a"), x} {
		for _, name := range []string{"", "x"} {
			e.Names, e.A = []string{name}, nil
			l = append(l, e)
		}
		e.Names, e.A = nil, []api.Expr{x}
		l = append(l, e)
	}
	return l
}

// TestWrong: a fault counts wherever it stands.
func TestWrong(t *testing.T) {
	x := variable("x")
	for _, e := range wrongs() {
		checkRight(t, e, false)
		for _, around := range []api.Expr{
			lambda("v", e), app(e, x), app(x, e), app(x, x, x, e), cond(e, x, x), cond(x, e, x), cond(x, x, e), let("v", e, x), let("v", x, e), let("v w", x, e, x), prim("not", e), prim("+", e, x), prim("+", x, e), lambda("v", cond(x, x, app(x, e))),
		} {
			checkRight(t, around, false)
		}
	}
}

func TestText(t *testing.T) {
	x, y, one := variable("x"), variable("y"), integer("1")
	for _, c := range []struct {
		e    api.Expr
		want string
	}{
		{integer("-12"), "-12"},
		{boolean("#t"), "#t"},
		{boolean("#f"), "#f"},
		{none(), "()"},
		{symbol("a"), "'a"},
		{symbol("'"), "''"},
		{symbol("a b"), "'a b"},
		{variable("x.1"), "x.1"},
		{variable("\xff("), "\xff("},
		{lambda("x", x), "(lambda (x) x)"},
		{lambda("x y z", none()), "(lambda (x y z) ())"},
		{lambda("x", lambda("y", symbol("a"))), "(lambda (x) (lambda (y) 'a))"},
		{cond(x, y, one), "(if x y 1)"},
		{cond(cond(x, x, x), none(), symbol("a")), "(if (if x x x) () 'a)"},
		{let("x", one, x), "(let ((x 1)) x)"},
		{let("x y z", one, lambda("v", y), none(), app(x, y)), "(let ((x 1) (y (lambda (v) y)) (z ())) (x y))"},
		{let("x", let("y", one, y), let("z", x, x)), "(let ((x (let ((y 1)) y))) (let ((z x)) x))"},
		{prim("+", x, one), "(+ x 1)"},
		{prim("null?", none()), "(null? ())"},
		{prim("cons", prim("car", x), prim("seq", x, y)), "(cons (car x) (seq x y))"},
		{app(x, y), "(x y)"},
		{app(x, y, one, none()), "(x y 1 ())"},
		{app(app(x, y), app(y, x)), "((x y) (y x))"},
		{app(lambda("x", x), one), "((lambda (x) x) 1)"},
		{app(none(), none()), "(() ())"},
	} {
		if got := core.Text(c.e); got != c.want {
			t.Errorf("P502: Text is %q, not %q", got, c.want)
		}
	}
}

func TestFree(t *testing.T) {
	x, y, v := variable("x"), variable("y"), variable("v")
	for _, c := range []struct {
		e    api.Expr
		want string
	}{
		{integer("1"), ""},
		{boolean("#t"), ""},
		{none(), ""},
		{symbol("x"), ""},
		{prim("+", integer("1"), symbol("x")), ""},
		{x, "x"},
		{app(y, x, y, x, x), "x y"},
		{cond(y, x, v), "v x y"},
		{prim("cons", v, prim("car", x)), "v x"},
		{lambda("x", x), ""},
		{lambda("x", y), "y"},
		{lambda("x y", app(y, x, v)), "v"},
		{lambda("x", lambda("y", app(x, y, v))), "v"},
		{lambda("x", lambda("x", x)), ""},
		{lambda("x", app(lambda("x", x), x)), ""},
		{app(lambda("x", x), x), "x"},
		{app(x, lambda("x", x)), "x"},
		{app(lambda("x", y), lambda("y", x)), "x y"},
		{let("x", integer("1"), x), ""},
		{let("x", x, y), "y"},
		{let("x y", y, x, app(x, y)), ""},
		{let("x y", v, v, v), "v"},
		{let("x", lambda("y", app(x, y)), y), "y"},
		{let("x", let("y", x, y), y), "y"},
		{app(let("x", x, x), x), "x"},
		{app(let("x", x, let("x", x, x)), y), "y"},
		{let("x", lambda("x", x), app(x, v)), "v"},
		{lambda("x", app(let("x", x, x), x, lambda("y", x), y)), "y"},
		{app(variable("b"), variable("a"), variable("B"), variable("a.2"), variable("a.10"), variable("a"), variable("\xff"), variable("%p.1"), variable("é"), variable("aa")), "%p.1 B a a.10 a.2 aa b é \xff"},
		{app(variable("input"), variable("car"), variable("if")), "car if input"},
	} {
		if got := core.Free(c.e); !slices.Equal(got, strings.Fields(c.want)) {
			t.Errorf("P502: Free of %s is %q, not %q", core.Text(c.e), got, c.want)
		}
	}
}

func TestSize(t *testing.T) {
	x := variable("x")
	for _, c := range []struct {
		e    api.Expr
		want int
	}{
		{integer("12345"), 1},
		{boolean("#t"), 1},
		{none(), 1},
		{symbol("a"), 1},
		{x, 1},
		{lambda("x y z", x), 2},
		{app(x, x), 3},
		{app(x, x, x, x), 5},
		{cond(x, x, x), 4},
		{let("x", x, x), 3},
		{let("x y z", x, x, x, x), 5},
		{prim("car", x), 2},
		{prim("+", x, x), 3},
		{lambda("x", app(cond(x, x, x), prim("not", let("y", x, x)))), 10},
	} {
		if got := core.Size(c.e); got != c.want {
			t.Errorf("P502: Size of %s is %d, not %d", core.Text(c.e), got, c.want)
		}
	}
}

// TestAnswersNew: an answer's list is nobody else's.
func TestAnswersNew(t *testing.T) {
	e := app(variable("b"), variable("a"), lambda("c", variable("a")))
	first, other := core.Free(e), core.Free(e)
	other = other[:cap(other)]
	for i := range other {
		other[i] = "spoilt"
	}
	if !slices.Equal(first, []string{"a", "b"}) || !reflect.DeepEqual(e, app(variable("b"), variable("a"), lambda("c", variable("a")))) {
		t.Errorf("P2: Free's answer %q is not new", first)
	}
	for _, name := range first[len(first):cap(first)] {
		if name != "" {
			t.Errorf("P2: %q in the spare room of Free's answer", name)
		}
	}
}
