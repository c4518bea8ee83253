package rules_test

import (
	"slices"
	"strconv"
	"strings"
	"testing"

	"thunk/api"
	"thunk/datum"
	"thunk/read"
	"thunk/rules"
)

// integer, boolean, symbol, list are data as they are read.
func integer(text string) api.Datum { return api.Datum{Kind: api.DInt, Text: text} }

func boolean(text string) api.Datum { return api.Datum{Kind: api.DBool, Text: text} }

func symbol(text string, marks ...int) api.Datum {
	return api.Datum{Kind: api.DSym, Text: text, Marks: marks}
}

func list(parts ...api.Datum) api.Datum { return api.Datum{Kind: api.DList, L: parts} }

// marked makes of each symbol a/1/2 the symbol a that bears marks 1 and 2.
func marked(d api.Datum) api.Datum {
	if d.Kind == api.DSym {
		pieces := strings.Split(d.Text, "/")
		d.Text = pieces[0]
		for _, piece := range pieces[1:] {
			mark, err := strconv.Atoi(piece)
			if err != nil {
				panic(err)
			}
			d.Marks = append(d.Marks, mark)
		}
	}
	for i := range d.L {
		d.L[i] = marked(d.L[i])
	}
	return d
}

// parse is the datum of a text; of its symbols a/1/2 bears marks.
func parse(s string) api.Datum {
	l, _, e := read.Read(s)
	if e != api.OK || len(l) != 1 {
		panic(s)
	}
	return marked(l[0])
}

// told is d with its marks, as parse takes it.
func told(d api.Datum) string {
	if d.Kind != api.DList {
		s := d.Text
		for _, mark := range d.Marks {
			s += "/" + strconv.Itoa(mark)
		}
		return s
	}
	var parts []string
	for _, part := range d.L {
		parts = append(parts, told(part))
	}
	return "(" + strings.Join(parts, " ") + ")"
}

// row is bounds: of each, under so many dots, its name and what stands there; within rows the names are left out, where they are the row's.
func row(l []rules.Bound) string {
	var s []string
	for _, b := range l {
		s = append(s, told(b.Name)+"="+value(b))
	}
	return strings.Join(s, " ")
}

func value(b rules.Bound) string {
	if b.Deep == 0 {
		if len(b.L) > 0 {
			return "a row that is none"
		}
		return told(b.D)
	}
	if b.D.Kind != 0 || b.D.Text != "" || b.D.At != 0 || len(b.D.Marks)+len(b.D.L) > 0 {
		return "a row with a datum"
	}
	var s []string
	for _, x := range b.L {
		if x.Deep != b.Deep-1 || !datum.Same(x.Name, b.Name) || x.Name.At != b.Name.At {
			return "another one in a row"
		}
		s = append(s, value(x))
	}
	return strconv.Itoa(b.Deep) + "[" + strings.Join(s, ", ") + "]"
}

func checkRule(t *testing.T, lits []string, pattern, template api.Datum, want api.Errno) {
	t.Helper()
	if got := rules.Check(lits, pattern, template); got != want {
		t.Fatalf("P401: Check(%q, %s, %s) is %v, not %v", lits, told(pattern), told(template), got, want)
	}
}

func TestRightRules(t *testing.T) {
	for _, c := range [][]string{
		{"()", "1"},
		{"()", "()"},
		{"()", "x"},
		{"()", "(if 1 #t (f ()))"},
		{"(x)", "x"},
		{"(x)", "(x x (x))"},
		{"(x y)", "(y)"},
		{"(x x/1)", "(x x/1)"},
		{"(x/1 x/2 x/1/2 x/2/1)", "x"},
		{"(_ _ (_ x))", "(_ x)"},
		{"(_/1 _/1 _)", "_"},
		{"(1 1 #t #t)", "1"},
		{"(x ...)", "(x ...)"},
		{"(x ...)", "(f x ... 1 x ...)"},
		{"(x .../1)", "(x .../2)"},
		{"(a b ... c d)", "((b ...) (a d) c)"},
		{"((x y) ...)", "((x ...) (y ...))"},
		{"((x y) ...)", "((y x) ...)"},
		{"((x ...) (y ...))", "((x y) ...)"},
		{"(z x ...)", "((z x) ...)"},
		{"(z x ...)", "((z (z x)) ... z)"},
		{"((x ...) ...)", "((x ...) ...)"},
		{"((x ...) ...)", "(((x ...)) ...)"},
		{"((x y ...) ...)", "((x y ... y ...) ...)"},
		{"((x y ...) ...)", "((y ...) ... x ...)"},
		{"((x y ...) ... z ())", "(((z y) ... x) ...)"},
		{"(((x ...) ...) ... y)", "(((y x ...) ...) ...)"},
		{"(1 ...)", "1"},
		{"((_ ...) ...)", "()"},
		{"(() ... x)", "x"},
		{"((x ...) (y ... z))", "((x ...) z (y ... 1))"},
	} {
		checkRule(t, nil, parse(c[0]), parse(c[1]), api.OK)
	}
}

func TestWrongPatterns(t *testing.T) {
	for _, s := range []string{"x", "_", "1", "#t", "...", ".../1", "(...)", "(.../1)", "(... x)", "(... ...)", "(x ... ...)", "(x ... .../1)", "(x ... y ...)", "(x ... 1 ... z)", "(1 (...))", "(1 (... x))", "(x (y ... z ...))", "((y ... ...) ...)", "(((() ... 1 ...)))", "(x x (...))", "(x ... x ...)"} {
		checkRule(t, nil, parse(s), parse("1"), api.ErrForm)
		checkRule(t, nil, parse(s), parse("..."), api.ErrForm)
	}
	for _, s := range []string{"(x x)", "(x 1 x)", "(x (1 (x)))", "((x) x)", "((x ...) x)", "(x x ...)", "((x y ...) ... y)", "(x/1 x x/1)", "(x/1/2 (x/1/2))", "(a b c d e f g b)", "((_ x) (x _))"} {
		checkRule(t, nil, parse(s), parse("1"), api.ErrTwice)
		checkRule(t, nil, parse(s), parse("..."), api.ErrTwice)
	}
}

func TestWrongTemplates(t *testing.T) {
	for _, s := range []string{
		"...", ".../1", "(...)", "(... x)", "(... ...)", "(z (... z))", "(((.../7)))",
		"(x ... ...)", "(y ... .../1)", "((y ...) ... ...)", "(z (x ... ... z))",
		"x", "y", "(x)", "(z x)", "(y)", "(y ...)", "((x ...) ...)", "(((y ...) ...) ...)", "((y x ...) ...)", "(x ... x)", "((y ...) y)",
		"(z ...)", "(1 ...)", "(() ...)", "(_ ...)", "(f ...)", "(x ... z ...)", "(x ... (z (1 ...)))",
		"((x z ...) ...)", "((x (1 ...)) ...)", "((y ...) z ...)", "(((y ...) (z ...)) ...)", "((z ...) ...)",
		"((z/1 ...) x ...)", "(x/1 ...)",
	} {
		checkRule(t, nil, parse("(z (x y ...) ...)"), parse(s), api.ErrForm)
	}
}

// TestLiterals: dots are dots whatever lits has; a literal is no variable; _ may be one.
func TestLiterals(t *testing.T) {
	for _, c := range []struct {
		lits              string
		pattern, template string
		want              api.Errno
	}{
		{"else", "(else else)", "else", api.OK},
		{"else", "(else/1 else/2 else/1 x)", "(else x)", api.OK},
		{"else", "(else ...)", "else", api.OK},
		{"else", "(else ...)", "(else ...)", api.ErrForm},
		{"x y", "(x y x y)", "(x y)", api.OK},
		{"x y", "((x y x z) ...)", "(z ...)", api.OK},
		{"x y", "((x y x z) ...)", "((x z) ...)", api.OK},
		{"x y", "((x y x z) ...)", "((x y) ...)", api.ErrForm},
		{"x", "(x y y)", "1", api.ErrTwice},
		{"_", "(_ _ _)", "_", api.OK},
		{"_", "(_ ...)", "(_ ...)", api.ErrForm},
		{"...", "(x ...)", "(x ...)", api.OK},
		{"...", "(x ...)", "x", api.ErrForm},
		{"...", "(...)", "1", api.ErrForm},
		{"...", "(x ... ...)", "1", api.ErrForm},
		{"... x", "(x ... x)", "(... x)", api.ErrForm},
		{"...", "(x)", "...", api.ErrForm},
		{"xx x1", "(x x)", "1", api.ErrTwice},
	} {
		checkRule(t, strings.Fields(c.lits), parse(c.pattern), parse(c.template), c.want)
	}
	checkRule(t, []string{""}, list(symbol(""), symbol("")), integer("1"), api.OK)
	checkRule(t, nil, list(symbol(""), symbol("")), integer("1"), api.ErrTwice)
}

// TestOddRules: fields that a kind has no use for do not make dots or lists of it, and two that differ in one are not the Same.
func TestOddRules(t *testing.T) {
	dots := symbol("...")
	for _, kind := range []int{-1, 0, api.DInt, api.DBool, 5} {
		odd := api.Datum{Kind: kind, Text: "...", L: []api.Datum{dots, dots}}
		checkRule(t, nil, odd, integer("1"), api.ErrForm)
		checkRule(t, nil, list(odd, odd), list(odd, odd), api.OK)
		checkRule(t, nil, list(symbol("x"), dots, odd), list(odd, symbol("x"), dots, odd), api.OK)
	}
	for _, d := range []api.Datum{{Kind: api.DList, Text: "...", L: []api.Datum{symbol("x")}}, {Kind: api.DSym, Text: "x", L: []api.Datum{dots}}} {
		checkRule(t, nil, list(d), d, api.OK)
		checkRule(t, nil, list(d, d), d, api.ErrTwice)
		checkRule(t, nil, list(d, symbol("y")), list(d, dots), api.ErrForm)
	}
	x := api.Datum{Kind: api.DSym, Text: "x", L: []api.Datum{integer("1")}}
	checkRule(t, nil, list(x, symbol("x")), symbol("x"), api.OK)
	checkRule(t, nil, list(symbol("y"), list(x, dots)), list(symbol("x")), api.OK)
	checkRule(t, nil, list(symbol("y"), list(x, dots)), list(x), api.ErrForm)
	checkRule(t, []string{"x"}, list(x, x), integer("1"), api.OK)
}

// checkMatch holds what is bound against what must be; none is "no".
func checkMatch(t *testing.T, lits []string, pattern, d api.Datum, want string) {
	t.Helper()
	l, is := rules.Match(lits, pattern, d)
	got := row(l)
	if !is {
		if len(l) > 0 {
			t.Fatalf("P4: Match(%q, %s, %s) is %s beside false", lits, told(pattern), told(d), got)
		}
		got = "no"
	}
	if got != want {
		t.Fatalf("P402: Match(%q, %s, %s) is %s, not %s", lits, told(pattern), told(d), got, want)
	}
}

func TestMatchWithoutDots(t *testing.T) {
	for _, c := range [][]string{
		{"()", "()", ""},
		{"()", "(1)", "no"},
		{"()", "1", "no"},
		{"()", "x", "no"},
		{"(())", "(())", ""},
		{"(())", "(x)", "no"},
		{"(_ x)", "(f 1)", "x=1"},
		{"(x)", "(a)", "x=a"},
		{"(x)", "(a/1/2)", "x=a/1/2"},
		{"(x)", "(...)", "x=..."},
		{"(x)", "(_)", "x=_"},
		{"(x)", "((1 (#t)))", "x=(1 (#t))"},
		{"(x)", "(())", "x=()"},
		{"(x)", "()", "no"},
		{"(x)", "(1 2)", "no"},
		{"(x)", "x", "no"},
		{"(x)", "1", "no"},
		{"(x)", "#t", "no"},
		{"(x/1 x)", "(1 2)", "x/1=1 x=2"},
		{"(b a)", "(1 2)", "b=1 a=2"},
		{"(b (d c) a)", "(1 (2 3) 4)", "b=1 d=2 c=3 a=4"},
		{"((x) y)", "((1) 2)", "x=1 y=2"},
		{"((x) y)", "(1 2)", "no"},
		{"((x) y)", "((1 1) 2)", "no"},
		{"((x) y)", "(() 2)", "no"},
		{"(_ _ _)", "(1 (2) x)", ""},
		{"(_/4)", "(1)", ""},
		{"(_)", "()", "no"},
		{"(1 x)", "(1 2)", "x=2"},
		{"(1 x)", "(-1 2)", "no"},
		{"(1 x)", "(#t 2)", "no"},
		{"(1 x)", "((1) 2)", "no"},
		{"(12)", "(1)", "no"},
		{"(#t)", "(#t)", ""},
		{"(#t)", "(#f)", "no"},
		{"(#f)", "(f)", "no"},
		{"(x 1)", "(1 2)", "no"},
	} {
		checkMatch(t, nil, parse(c[0]), parse(c[1]), c[2])
	}
}

func TestMatchWithDots(t *testing.T) {
	for _, c := range [][]string{
		{"(x ...)", "()", "x=1[]"},
		{"(x ...)", "(1)", "x=1[1]"},
		{"(x ...)", "(a/1 (2) ... 3)", "x=1[a/1, (2), ..., 3]"},
		{"(x ...)", "1", "no"},
		{"(x .../5)", "(1 2)", "x=1[1, 2]"},
		{"(a x ...)", "()", "no"},
		{"(a x ...)", "(1)", "a=1 x=1[]"},
		{"(a x ...)", "(1 2 3)", "a=1 x=1[2, 3]"},
		{"(x ... a)", "()", "no"},
		{"(x ... a)", "(1)", "x=1[] a=1"},
		{"(x ... a)", "(1 2 3)", "x=1[1, 2] a=3"},
		{"(a x ... b c)", "(1 2)", "no"},
		{"(a x ... b c)", "(1 2 3)", "a=1 x=1[] b=2 c=3"},
		{"(a x ... b c)", "(1 2 3 4 5)", "a=1 x=1[2, 3] b=4 c=5"},
		{"(x ... 1)", "(1 1)", "x=1[1]"},
		{"(x ... 1)", "(1 2)", "no"},
		{"(1 x ...)", "(2 1)", "no"},
		{"((x y) ... z)", "(1)", "x=1[] y=1[] z=1"},
		{"((x y) ...)", "((1 2) (3 4))", "x=1[1, 3] y=1[2, 4]"},
		{"((x y) ...)", "((1 2) (3))", "no"},
		{"((x y) ...)", "((1 2) 3)", "no"},
		{"((x y) ...)", "(1 (2 3))", "no"},
		{"((x ...) ...)", "()", "x=2[]"},
		{"((x ...) ...)", "(())", "x=2[1[]]"},
		{"((x ...) ...)", "((1 2) () (3))", "x=2[1[1, 2], 1[], 1[3]]"},
		{"((x ...) ...)", "((1 2) 3)", "no"},
		{"((x ... y) ...)", "((1 2) (3))", "x=2[1[1], 1[]] y=1[2, 3]"},
		{"((x ... y) ...)", "((1 2) ())", "no"},
		{"(((x ...) ... y) ... z)", "(1)", "x=3[] y=1[] z=1"},
		{"(((x ...) ... y) ... z)", "((1) ((2 3) () 4) 5)", "x=3[2[], 2[1[2, 3], 1[]]] y=1[1, 4] z=5"},
		{"(((x ...) ... y) ... z)", "((1) ((2 3) 0 4) 5)", "no"},
		{"((((x ...) ...) ... y) z)", "(((() ((1) (2 3))) 4) 5)", "x=3[2[1[], 1[(1), (2 3)]]] y=4 z=5"},
		{"((((x ...) ...) ... y) z)", "(((() (1 (2 3))) 4) 5)", "x=3[2[1[], 1[1, (2 3)]]] y=4 z=5"},
		{"((((x ...) ...) ... y) z)", "(((() (1)) (2) 4) 5)", "no"},
		{"((((x ...) ...) ... y) z)", "((() ((1) (2 3)) 4) 5)", "x=3[2[], 2[1[1], 1[2, 3]]] y=4 z=5"},
		{"(1 ...)", "()", ""},
		{"(1 ...)", "(1 1 1)", ""},
		{"(1 ...)", "(1 2 1)", "no"},
		{"(_ ...)", "(1 x ())", ""},
		{"((_ x) ...)", "((f 1) (g 2))", "x=1[1, 2]"},
		{"((a ...) (b ...) c)", "((1 2) () 3)", "a=1[1, 2] b=1[] c=3"},
		{"((b ...) (a ...))", "((1) (2))", "b=1[1] a=1[2]"},
	} {
		checkMatch(t, nil, parse(c[0]), parse(c[1]), c[2])
	}
}

func TestMatchLiterals(t *testing.T) {
	for _, c := range [][]string{
		{"else", "(else x)", "(else 1)", "x=1"},
		{"else", "(else x)", "(else/1/2 1)", "x=1"},
		{"else", "(else/3 x)", "(else/4 1)", "x=1"},
		{"else", "(else x)", "(els 1)", "no"},
		{"else", "(else x)", "(elsee 1)", "no"},
		{"else", "(else x)", "(1 1)", "no"},
		{"else", "(else x)", "((else) 1)", "no"},
		{"a else", "((else x) ...)", "((else 1) (else/1 2))", "x=1[1, 2]"},
		{"a else", "((else x) ...)", "((else 1) (a 2))", "no"},
		{"a b", "(a b ...)", "(a b b/1)", ""},
		{"a b", "(a b ...)", "(a b b/1 c)", "no"},
		{"a b", "(b ... a)", "(b/1 a)", ""},
		{"_", "(_ x)", "(_/1 1)", "x=1"},
		{"_", "(_ x)", "(f 1)", "no"},
		{"...", "(x ...)", "(1 2)", "x=1[1, 2]"},
		{"...", "(x ...)", "(1 ...)", "x=1[1, ...]"},
		{"x", "(x y)", "(x x)", "y=x"},
		{"1 #t", "(1 #t)", "(1 #t)", ""},
		{"1 #t", "(1 #t)", "(#t 1)", "no"},
	} {
		checkMatch(t, strings.Fields(c[0]), parse(c[1]), parse(c[2]), c[3])
	}
	checkMatch(t, []string{"1", "()", "#t"}, list(integer("1"), list(), boolean("#t")), list(symbol("1"), symbol("()"), symbol("#t")), "no")
	checkMatch(t, nil, list(integer("1")), list(symbol("1")), "no")
	checkMatch(t, nil, list(boolean("#t")), list(symbol("#t")), "no")
	checkMatch(t, []string{"#t"}, list(symbol("#t")), list(boolean("#t")), "no")
}

// TestOddData: what nothing is said of matches nothing; marks of numbers do not count.
func TestOddData(t *testing.T) {
	for _, kind := range []int{-1, 0, 5, 50} {
		odd := api.Datum{Kind: kind, Text: "t"}
		checkMatch(t, nil, list(odd), list(odd), "no")
		checkMatch(t, nil, list(symbol("x")), list(odd), "x=t")
	}
	one := api.Datum{Kind: api.DInt, Text: "1", Marks: []int{1}, L: []api.Datum{list()}, At: 8}
	checkMatch(t, nil, list(integer("1"), one), list(one, integer("1")), "")
}

// TestBoundAsItStands: what is bound is as it was, with its places; so is the name.
func TestBoundAsItStands(t *testing.T) {
	l, is := rules.Match(nil, parse("(x (y ...))"), parse("((a/1 b) (c 'd))"))
	if !is || len(l) != 2 {
		t.Fatal("P402: no match")
	}
	if l[0].Name.At != 1 || l[0].D.At != 1 || l[0].D.L[0].At != 2 || l[0].D.L[1].At != 6 {
		t.Errorf("P402: %+v", l[0])
	}
	c, d := l[1].L[0], l[1].L[1]
	if l[1].Name.At != 4 || c.Name.At != 4 || c.D.At != 10 || d.D.At != 12 || d.D.L[0].At != 12 || d.D.L[1].At != 13 {
		t.Errorf("P402: %+v", l[1])
	}
	odd := api.Datum{Kind: 77, Text: "a", Marks: []int{1}, L: []api.Datum{{Kind: api.DInt, Marks: []int{2}, At: 3}}, At: -4}
	l, is = rules.Match(nil, parse("(x)"), list(odd))
	if !is || !equal(l[0].D, odd) {
		t.Errorf("P402: %+v", l)
	}
}

// equal tells whether two data are one in all fields; no list and an empty one are the same.
func equal(a, b api.Datum) bool {
	return a.Kind == b.Kind && a.Text == b.Text && a.At == b.At && slices.Equal(a.Marks, b.Marks) && slices.EqualFunc(a.L, b.L, equal)
}

// checkFill holds what is filled by what pattern binds in d against what must be; false is "no".
func checkFill(t *testing.T, pattern, d, template, want string) {
	t.Helper()
	l, is := rules.Match(nil, parse(pattern), parse(d))
	if !is {
		t.Fatalf("P402: Match(%s, %s) is false", pattern, d)
	}
	filled, is := rules.Fill(parse(template), l, 7)
	got := told(filled)
	if !is {
		if !equal(filled, api.Datum{}) {
			t.Fatalf("P4: Fill(%s, %s) is %s beside false", template, row(l), got)
		}
		got = "no"
	}
	if got != want {
		t.Fatalf("P403: Fill(%s, %s) is %s, not %s", template, row(l), got, want)
	}
}

func TestFillWithoutDots(t *testing.T) {
	for _, c := range [][]string{
		{"()", "()", "1", "1"},
		{"()", "()", "#f", "#f"},
		{"()", "()", "()", "()"},
		{"()", "()", "(())", "(())"},
		{"()", "()", "f", "f/7"},
		{"()", "()", "f/1/2", "f/1/2/7"},
		{"()", "()", "f/7", "f/7/7"},
		{"()", "()", "_", "_/7"},
		{"()", "()", "(f (g 1) -2 () #t)", "(f/7 (g/7 1) -2 () #t)"},
		{"(x)", "(1)", "x", "1"},
		{"(x)", "(a)", "x", "a"},
		{"(x)", "(a/1)", "(x (x) b)", "(a/1 (a/1) b/7)"},
		{"(x)", "((f x (x/1)))", "(x x)", "((f x (x/1)) (f x (x/1)))"},
		{"(x)", "(x)", "(x x/1)", "(x x/1/7)"},
		{"(x/1 x)", "(1 2)", "(x x/1 x/2 x/1/1)", "(2 1 x/2/7 x/1/1/7)"},
		{"(x y)", "(y x)", "(x y)", "(y x)"},
		{"(x)", "(...)", "(x x)", "(... ...)"},
		{"(_ x)", "(f 1)", "(_ x)", "(_/7 1)"},
	} {
		checkFill(t, c[0], c[1], c[2], c[3])
	}
}

func TestFillWithDots(t *testing.T) {
	for _, c := range [][]string{
		{"(x ...)", "()", "(x ...)", "()"},
		{"(x ...)", "()", "(f x ... 1)", "(f/7 1)"},
		{"(x ...)", "(1 a (b))", "(f x ... 1)", "(f/7 1 a (b) 1)"},
		{"(x ...)", "(1 2)", "(x .../9)", "(1 2)"},
		{"(x ...)", "(1 2)", "(x ... x ...)", "(1 2 1 2)"},
		{"(x ...)", "(1 2)", "((x x) ... (x ...))", "((1 1) (2 2) (1 2))"},
		{"(z x ...)", "(0 1 2)", "((f z x) ... z)", "((f/7 0 1) (f/7 0 2) 0)"},
		{"((x y) ...)", "((1 2) (3 4))", "((x ...) y ...)", "((1 3) 2 4)"},
		{"((x y) ...)", "((1 2) (3 4))", "((y x) ...)", "((2 1) (4 3))"},
		{"((x ...) (y ...))", "((1 2) (3 4))", "((x y) ...)", "((1 3) (2 4))"},
		{"((x ...) (y ...))", "((1 2) (3))", "((x y) ...)", "no"},
		{"((x ...) (y ...))", "(() (3))", "((x y) ...)", "no"},
		{"((x ...) (y ...))", "((1 2) (3))", "((x ...) (y ...))", "((1 2) (3))"},
		{"((x ...) (y ...))", "(() ())", "((x y) ...)", "()"},
		{"((x ...) (y ...))", "((1 2) (3))", "(f (g ((x y) ...)))", "no"},
		{"((x ...) ...)", "((1 2) () (3))", "((x ...) ...)", "((1 2) () (3))"},
		{"((x ...) ...)", "((1 2) () (3))", "((f (x a) ...) ...)", "((f/7 (1 a/7) (2 a/7)) (f/7) (f/7 (3 a/7)))"},
		{"((x y ...) ...)", "((1 2 3) (4))", "((y ... x) ...)", "((2 3 1) (4))"},
		{"((x y ...) ... z)", "((1 2 3) (4) 5)", "((x (z y) ...) ...)", "((1 (5 2) (5 3)) (4))"},
		{"((x y ...) ...)", "((1 2 3) (4))", "((y ...) ... x ...)", "((2 3) () 1 4)"},
		{"((x ...) (y ...) ...)", "((1 2) (3) (4 5))", "((x y ...) ...)", "((1 3) (2 4 5))"},
		{"((x ...) (y ...) ...)", "((1 2) (3))", "((x y ...) ...)", "no"},
		{"(((x ...) ...) ((y ...) ...))", "(((1 2) (3)) ((4 5) (6)))", "(((x y) ...) ...)", "(((1 4) (2 5)) ((3 6)))"},
		{"(((x ...) ...) ((y ...) ...))", "(((1 2) (3)) ((4 5) (6 7)))", "(((x y) ...) ...)", "no"},
		{"(((x ...) ...) ((y ...) ...))", "(() ())", "(((x y) ...) ...)", "()"},
		{"((((x ...) ...) ...))", "((((1) (2 3)) () (())))", "(((x ... 0) ...) ...)", "(((1 0) (2 3 0)) () ((0)))"},
		{"((x y ...) ...)", "((1 2) (3))", "((x (y ... x)) ... (y ...) ...)", "((1 (2 1)) (3 (3)) (2) ())"},
	} {
		checkFill(t, c[0], c[1], c[2], c[3])
	}
}

// TestPlacesOfFilled: what the template brings stands at 0, what is bound where it stood.
func TestPlacesOfFilled(t *testing.T) {
	l, _ := rules.Match(nil, parse("(x (y ...))"), parse("((a b) (c (d)))"))
	got, is := rules.Fill(parse("  (f x 1 #t (g () y ...))"), l, -3)
	at := func(d api.Datum, at int) api.Datum {
		d.At = at
		return d
	}
	want := list(symbol("f", -3), at(list(at(symbol("a"), 2), at(symbol("b"), 4)), 1), integer("1"), boolean("#t"),
		list(symbol("g", -3), list(), at(symbol("c"), 8), at(list(at(symbol("d"), 11)), 10)))
	if !is || !equal(got, want) {
		t.Errorf("P403: %+v, not %+v", got, want)
	}
}

// TestBoundStaysInFilled: P404, of all that a datum may be.
func TestBoundStaysInFilled(t *testing.T) {
	odd := api.Datum{Kind: 77, Text: "a", Marks: []int{1}, L: []api.Datum{{Kind: api.DInt, Marks: []int{2}, At: 3}}, At: -4}
	l, is := rules.Match(nil, parse("(x y ...)"), list(odd, odd, symbol("x", 7), symbol("...")))
	if !is {
		t.Fatal("P402: no match")
	}
	got, is := rules.Fill(parse("(f x (x y) ...)"), l, 7)
	want := list(symbol("f", 7), odd, list(odd, odd), list(odd, symbol("x", 7)), list(odd, symbol("...")))
	if !is || !equal(got, want) {
		t.Errorf("P404: %+v, not %+v", got, want)
	}
}

// TestRowsByHand: what stands in a row is its variable's, of a depth less, whether told again there or not.
func TestRowsByHand(t *testing.T) {
	one, two := rules.Bound{D: integer("1")}, rules.Bound{D: integer("2")}
	l := []rules.Bound{{Name: symbol("x"), Deep: 2, L: []rules.Bound{{L: []rules.Bound{one, two}}, {L: []rules.Bound{two}}}}, {Name: symbol("y"), Deep: 1, L: []rules.Bound{two, one}}}
	got, is := rules.Fill(parse("((y (x y) ...) ... (x ...) ...)"), l, 1)
	if !is || told(got) != "((2 (1 2) (2 2)) (1 (2 1)) (1 2) (2))" {
		t.Errorf("P403: %s, %v", told(got), is)
	}
}

// TestMarks: any number is a mark.
func TestMarks(t *testing.T) {
	for _, mark := range []int{0, 1, -1, 1 << 62, -1 << 63} {
		got, is := rules.Fill(parse("(f f/1 x)"), []rules.Bound{{Name: symbol("x"), D: symbol("f")}}, mark)
		if want := list(symbol("f", mark), symbol("f", 1, mark), symbol("f")); !is || !equal(got, want) {
			t.Errorf("P403: %+v, not %+v", got, want)
		}
	}
}
