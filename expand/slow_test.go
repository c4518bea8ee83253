package expand_test

import (
	"math/rand"
	"reflect"
	"slices"
	"strconv"
	"strings"
	"testing"

	"thunk/api"
	"thunk/core"
	"thunk/datum"
	"thunk/expand"
	"thunk/read"
	"thunk/rules"
)

// slowFault is thrown.
type slowFault struct {
	at  int
	err api.Errno
}

// slowBound is what one identifier is bound to: a name, or rules, by all that was bound where they were made.
type slowBound struct {
	id    api.Datum
	name  string
	rules *api.Datum
	made  *[]slowBound
}

// slow is the words of the promises, one by one: what is bound is a list, gone through from its end on.
type slow struct {
	number int
	marks  map[int]*[]slowBound
	at     []int // of the uses around
}

func (x *slow) throw(d api.Datum, err api.Errno) {
	if len(x.at) > 0 {
		panic(slowFault{x.at[0], err})
	}
	panic(slowFault{d.At, err})
}

func (x *slow) demand(is bool, d api.Datum, err api.Errno) {
	if !is {
		x.throw(d, err)
	}
}

// stands is what id stands for: a bound thing, or the text of what is not bound.
func (x *slow) stands(bound []slowBound, id api.Datum) (slowBound, bool) {
	for i := len(bound) - 1; i >= 0; i-- {
		if datum.Same(bound[i].id, api.Datum{Kind: api.DSym, Text: id.Text, Marks: id.Marks}) {
			return bound[i], true
		}
	}
	if n := len(id.Marks); n > 0 {
		id.Marks, bound = id.Marks[:n-1], *x.marks[id.Marks[n-1]]
		return x.stands(bound, id)
	}
	return slowBound{}, false
}

func (x *slow) name(text string) string {
	x.number++
	return text + "." + strconv.Itoa(x.number)
}

func (x *slow) bind(bound []slowBound, ids []api.Datum) ([]slowBound, []string) {
	var names []string
	bound = slices.Clone(bound)
	for i, id := range ids {
		for _, other := range ids[:i] {
			x.demand(!datum.Same(id, other), id, api.ErrTwice)
		}
	}
	for _, id := range ids {
		names = append(names, x.name(id.Text))
		id.L = nil
		bound = append(bound, slowBound{id: id, name: names[len(names)-1]})
	}
	return bound, names
}

// isList tells whether d is a list of at least so many, and at most.
func isList(d api.Datum, least, most int) bool {
	return d.Kind == api.DList && len(d.L) >= least && len(d.L) <= most
}

func isSymbol(d api.Datum) bool { return d.Kind == api.DSym }

const plenty = 1 << 40

// takes throws what is wrong with rules.
func (x *slow) takes(d api.Datum) {
	x.demand(isList(d, 3, plenty) && datum.Is(d.L[0], "syntax-rules") && isList(d.L[1], 0, plenty), d, api.ErrForm)
	for _, lit := range d.L[1].L {
		x.demand(isSymbol(lit), d, api.ErrForm)
	}
	for _, rule := range d.L[2:] {
		x.demand(isList(rule, 2, 2) && isList(rule.L[0], 1, plenty), d, api.ErrForm)
	}
	for _, rule := range d.L[2:] {
		err := rules.Check(litsOf(d), list(rule.L[0].L[1:]...), rule.L[1])
		x.demand(err == api.OK, rule, err)
	}
}

func litsOf(d api.Datum) (lits []string) {
	for _, lit := range d.L[1].L {
		lits = append(lits, lit.Text)
	}
	return lits
}

func (x *slow) term(bound []slowBound, d api.Datum, deep int) api.Expr {
	x.demand(deep < 300, d, api.ErrDeep)
	switch {
	case d.Kind == api.DInt:
		return api.Expr{Kind: api.EInt, Text: d.Text}
	case d.Kind == api.DBool:
		return api.Expr{Kind: api.EBool, Text: d.Text}
	case isSymbol(d):
		return x.alone(bound, d)
	}
	x.demand(len(d.L) > 0, d, api.ErrForm)
	if head := d.L[0]; isSymbol(head) {
		b, is := x.stands(bound, head)
		switch {
		case is && b.rules != nil:
			return x.step(bound, b, d, deep)
		case !is && slices.Contains(words(), head.Text):
			return x.word(bound, d, deep)
		case !is && core.Arity(head.Text) > 0 && core.Arity(head.Text) == len(d.L)-1:
			return api.Expr{Kind: api.EPrim, Text: head.Text, A: x.terms(bound, d.L[1:], deep)}
		}
	}
	x.demand(len(d.L) > 1, d, api.ErrForm)
	return api.Expr{Kind: api.EApp, A: x.terms(bound, d.L, deep)}
}

func (x *slow) terms(bound []slowBound, l []api.Datum, deep int) (made []api.Expr) {
	for _, d := range l {
		made = append(made, x.term(bound, d, deep+1))
	}
	return made
}

func (x *slow) alone(bound []slowBound, d api.Datum) api.Expr {
	b, is := x.stands(bound, d)
	if is {
		x.demand(b.rules == nil, d, api.ErrForm)
		return api.Expr{Kind: api.EVar, Text: b.name}
	}
	x.demand(!slices.Contains(words(), d.Text), d, api.ErrForm)
	if d.Text == "input" {
		return api.Expr{Kind: api.EVar, Text: "input"}
	}
	x.demand(core.Arity(d.Text) > 0, d, api.ErrName)
	prim, function := api.Expr{Kind: api.EPrim, Text: d.Text}, api.Expr{Kind: api.ELam}
	for range core.Arity(d.Text) {
		function.Names = append(function.Names, x.name("a"))
	}
	for _, name := range function.Names {
		prim.A = append(prim.A, api.Expr{Kind: api.EVar, Text: name})
	}
	function.A = []api.Expr{prim}
	return function
}

func (x *slow) step(bound []slowBound, b slowBound, d api.Datum, deep int) api.Expr {
	x.demand(len(x.marks) < 2000, d, api.ErrLimit)
	mark := len(x.marks) + 1
	x.marks[mark] = b.made
	for _, rule := range b.rules.L[2:] {
		l, is := rules.Match(litsOf(*b.rules), list(rule.L[0].L[1:]...), list(d.L[1:]...))
		if !is {
			continue
		}
		if filled, is := rules.Fill(rule.L[1], l, mark); is {
			x.demand(datum.Size(filled) <= 20000, d, api.ErrLimit)
			x.at = append(x.at, d.At)
			e := x.term(bound, filled, deep+1)
			x.at = x.at[:len(x.at)-1]
			return e
		}
	}
	x.throw(d, api.ErrMatch)
	return api.Expr{}
}

func (x *slow) word(bound []slowBound, d api.Datum, deep int) api.Expr {
	switch d.L[0].Text {
	case "quote":
		x.demand(len(d.L) == 2, d, api.ErrForm)
		x.demand(datum.Size(d.L[1]) <= 300, d, api.ErrDeep)
		return slowQuoted(d.L[1])
	case "lambda":
		x.demand(len(d.L) == 3 && isList(d.L[1], 1, plenty), d, api.ErrForm)
		return x.lambda(bound, d, d.L[1].L, d.L[2], deep)
	case "if":
		x.demand(len(d.L) == 4, d, api.ErrForm)
		return api.Expr{Kind: api.EIf, A: x.terms(bound, d.L[1:], deep)}
	case "define", "define-syntax":
		x.throw(d, api.ErrForm)
	}
	x.demand(len(d.L) == 3 && isList(d.L[1], 1, plenty), d, api.ErrForm)
	var ids, values []api.Datum
	for _, pair := range d.L[1].L {
		x.demand(isList(pair, 2, 2) && isSymbol(pair.L[0]), d, api.ErrForm)
		ids, values = append(ids, pair.L[0]), append(values, pair.L[1])
	}
	e := api.Expr{Kind: api.ELet}
	switch d.L[0].Text {
	case "let":
		e.A = x.terms(bound, values, deep)
		bound, e.Names = x.bind(bound, ids)
	case "letrec":
		bound, e.Names = x.bind(bound, ids)
		e.A = x.terms(bound, values, deep)
	default:
		return x.term(x.letSyntax(bound, ids, values, d.L[0].Text == "letrec-syntax"), d.L[2], deep+1)
	}
	e.A = append(e.A, x.term(bound, d.L[2], deep+1))
	return e
}

func (x *slow) lambda(bound []slowBound, d api.Datum, ids []api.Datum, body api.Datum, deep int) api.Expr {
	for _, id := range ids {
		x.demand(isSymbol(id), d, api.ErrForm)
	}
	e := api.Expr{Kind: api.ELam}
	bound, e.Names = x.bind(bound, ids)
	e.A = []api.Expr{x.term(bound, body, deep+1)}
	return e
}

func (x *slow) letSyntax(bound []slowBound, ids, values []api.Datum, rec bool) []slowBound {
	number := x.number
	inner, _ := x.bind(bound, ids)
	x.number = number
	made := slices.Clone(bound)
	for i := range ids {
		x.takes(values[i])
		b := &inner[len(bound)+i]
		b.rules, b.made = &values[i], &made
	}
	if rec {
		made = inner
	}
	return inner
}

func slowQuoted(d api.Datum) api.Expr {
	switch {
	case d.Kind == api.DInt:
		return api.Expr{Kind: api.EInt, Text: d.Text}
	case d.Kind == api.DBool:
		return api.Expr{Kind: api.EBool, Text: d.Text}
	case isSymbol(d):
		return api.Expr{Kind: api.ESym, Text: d.Text}
	case len(d.L) == 0:
		return api.Expr{Kind: api.ENil}
	}
	return api.Expr{Kind: api.EPrim, Text: "cons", A: []api.Expr{slowQuoted(d.L[0]), slowQuoted(list(d.L[1:]...))}}
}

func isDefinition(d api.Datum) bool {
	return isList(d, 1, plenty) && (datum.Is(d.L[0], "define") || datum.Is(d.L[0], "define-syntax"))
}

func (x *slow) program(l []api.Datum) api.Expr {
	x.demand(len(l) > 0, api.Datum{}, api.ErrForm)
	for i, d := range l {
		x.demand(isDefinition(d) == (i < len(l)-1), d, api.ErrForm)
	}
	all, last := l[:len(l)-1], l[len(l)-1]
	var seen, ids []api.Datum
	for _, d := range all {
		syntax := datum.Is(d.L[0], "define-syntax")
		x.demand(len(d.L) == 3, d, api.ErrForm)
		id := d.L[1]
		if !syntax && isList(id, 2, plenty) {
			id = id.L[0]
		}
		x.demand(isSymbol(id), d, api.ErrForm)
		for _, other := range seen {
			x.demand(!datum.Same(other, id), id, api.ErrTwice)
		}
		seen = append(seen, id)
		if syntax {
			x.takes(d.L[2])
		} else {
			ids = append(ids, id)
		}
	}
	e := api.Expr{Kind: api.ELet}
	var bound []slowBound
	bound, e.Names = x.bind(nil, ids)
	for _, d := range all {
		if datum.Is(d.L[0], "define-syntax") {
			bound = append(bound, slowBound{id: d.L[1], rules: &d.L[2], made: &bound})
		}
	}
	for _, d := range all {
		switch {
		case datum.Is(d.L[0], "define-syntax"):
		case isSymbol(d.L[1]):
			e.A = append(e.A, x.term(bound, d.L[2], 0))
		default:
			e.A = append(e.A, x.lambda(bound, d, d.L[1].L[1:], d.L[2], 0))
		}
	}
	body := x.term(bound, last, 0)
	if len(ids) == 0 {
		return body
	}
	e.A = append(e.A, body)
	return e
}

// slowExpand is what Expand must be.
func slowExpand(l []api.Datum) (e api.Expr, at int, err api.Errno) {
	defer func() {
		switch f := recover().(type) {
		case nil:
		case slowFault:
			e, at, err = api.Expr{}, f.at, f.err
		default:
			panic(f)
		}
	}()
	return (&slow{marks: map[int]*[]slowBound{}}).program(l), 0, api.OK
}

// plain is e, each list that is empty nil.
func plain(e api.Expr) api.Expr {
	e.Names = append([]string(nil), e.Names...)
	var parts []api.Expr
	for _, part := range e.A {
		parts = append(parts, plain(part))
	}
	e.A = parts
	return e
}

// boundNames puts behind l all that e binds.
func boundNames(l []string, e api.Expr) []string {
	l = append(l, e.Names...)
	for _, part := range e.A {
		l = boundNames(l, part)
	}
	return l
}

// checkSlow holds Expand against the slow way, and what is answered against what all answers are.
func checkSlow(t *testing.T, s string, l []api.Datum) api.Errno {
	t.Helper()
	want, wantAt, wantErr := slowExpand(l)
	e, at, err := expand.Expand(l)
	if at != wantAt || err != wantErr || !reflect.DeepEqual(plain(e), plain(want)) {
		t.Fatalf("%s: %s, %v at %d, not %s, %v at %d", s, core.Text(e), err, at, core.Text(want), wantErr, wantAt)
	}
	if err != api.OK {
		return err
	}
	if free := core.Free(e); !core.Right(e) || len(free) > 1 || len(free) == 1 && free[0] != "input" {
		t.Fatalf("%s: %s is not right, or %q free", s, core.Text(e), free)
	}
	names := boundNames(nil, e)
	for i := range names {
		names[i] = names[i][strings.LastIndexByte(names[i], '.')+1:]
	}
	slices.Sort(names)
	if len(slices.Compact(slices.Clone(names))) != len(names) {
		t.Fatalf("%s: %s: a name twice", s, core.Text(e))
	}
	return api.OK
}

// maker makes texts; of some it spoils a piece.
type maker struct {
	*rand.Rand
	spoil int // one in so many
}

func (m maker) pick(l ...string) string { return l[m.Intn(len(l))] }

func (m maker) name() string {
	if m.Intn(30) == 0 {
		return m.pick("if", "let", "lambda", "quote", "car", "cons", "input", "a", "define", "let-syntax", "...", "_")
	}
	return m.pick("x", "y", "z", "t", "f", "m", "n")
}

// known is what m's texts have bound: variables, and rules.
type known struct{ names, rules []string }

func (k known) with(names ...string) known {
	return known{append(slices.Clone(k.names), names...), k.rules}
}

func (k known) withRules(names ...string) known {
	return known{k.names, append(slices.Clone(k.rules), names...)}
}

func (m maker) atom(k known) string {
	if len(k.names) > 0 && m.Intn(4) > 0 {
		return m.pick(k.names...)
	}
	return m.pick("1", "#t", "'x", "'()", "'(x (1 m))", "input", "car", "+", "5")
}

// spoilt is a piece that may stand nowhere, or a name that may be bound or not.
func (m maker) spoilt() string {
	return m.pick("()", "(if 1 2)", "nobody", "(1)", "lambda", "(lambda (x x) 1)", "(let ((x 1) (x 2)) x)", "(define x 1)", "(quote)", "(m)", "(m 1)", "(n (1 2) 3)", "m", "x", "y", "(lambda () 1)", "(lambda (5) 1)", "(let () 1)", "(let ((x)) 1)", "(let-syntax () 1)", "(letrec-syntax ((m 5)) 1)", "(letrec-syntax ((m (syntax-rules () ((_) (m))))) (m))", "(let-syntax ((f (syntax-rules () ((_ x ...) x)))) 1)", "(letrec ((x y)) z)")
}

func (m maker) term(deep int, k known) string {
	if m.Intn(m.spoil) == 0 {
		return m.spoilt()
	}
	if deep == 0 {
		return m.atom(k)
	}
	part := func() string { return m.term(deep-1, k) }
	x, y := m.name(), m.name()
	in := k.with(x)
	switch m.Intn(16) {
	case 0:
		return m.atom(k)
	case 1:
		return "(lambda (" + x + ") " + m.term(deep-1, in) + ")"
	case 2:
		return "(lambda (" + x + " " + y + ") " + m.term(deep-1, in.with(y)) + ")"
	case 3:
		return "(let ((" + x + " " + part() + ")) " + m.term(deep-1, in) + ")"
	case 4:
		return "(letrec ((" + x + " " + m.term(deep-1, in) + ") (" + y + "2 " + part() + ")) " + m.term(deep-1, in.with(y+"2")) + ")"
	case 5:
		return "(if " + part() + " " + part() + " " + part() + ")"
	case 6:
		return "(" + m.pick("+", "cons", "eq?", "seq") + " " + part() + " " + part() + ")"
	case 7:
		return "(" + part() + " " + part() + ")"
	case 8:
		return "(let-syntax ((" + x + " " + m.rules(deep-1, x, k) + ")) " + m.term(deep-1, k.withRules(x)) + ")"
	case 9:
		return "(letrec-syntax ((" + x + " " + m.rules(deep-1, x, k.withRules(x)) + ")) " + m.term(deep-1, k.withRules(x)) + ")"
	}
	if len(k.rules) == 0 {
		return m.atom(k)
	}
	return m.use(deep, k)
}

// use is one of rules that are known, mostly of a form that m's rules have.
func (m maker) use(deep int, k known) string {
	s := "(" + m.pick(k.rules...)
	switch m.Intn(6) {
	case 0:
	case 1:
		s += " (" + m.name() + " " + m.name() + ") " + m.term(deep-1, k)
	case 2, 3:
		x := m.name()
		s += " " + x + " " + m.term(deep-1, k.with(x))
	default:
		for range m.Intn(4) {
			s += " " + m.term(deep-1, k)
		}
	}
	return s + ")"
}

// rules are rules for the name, in whose templates k is known.
func (m maker) rules(deep int, name string, k known) string {
	s := "(syntax-rules (" + m.pick("", "", "is", "x", "is m") + ")"
	for range 1 + m.Intn(3) {
		var pattern string
		in := k
		switch m.Intn(6) {
		case 0:
			pattern = "_"
		case 1:
			pattern, in = "_ v", k.with("v")
		case 2:
			pattern, in = "_ x e", k.with("x", "e")
		case 3:
			pattern, in = "_ (x y) e", k.with("x", "e")
		case 4:
			pattern, in = "_ e r ...", k.with("e")
		case 5:
			pattern, in = m.pick("_ e is y", "_ 1 e", "_ #t e", "_ () e", "m _ e", "_ r ... e"), k.with("e")
		}
		if m.Intn(m.spoil) == 0 {
			pattern, in = m.pick("_ x x", "_ ...", "_ x ... y ...", ""), k
		}
		template := m.term(deep, in)
		switch {
		case strings.Contains(pattern, "r ..."):
			template = m.pick("("+name+" r ...)", "(cons e ("+name+" r ...))", "(let ((x e)) ("+name+" r ...))", "'(e r ...)", "(e r ... 1)", "(let-syntax ((n (syntax-rules () ((_ t) (e t r ...))))) (n x))")
		case m.Intn(3) == 0 && slices.Contains(in.names, "e"):
			template = m.pick("(let ((t e)) (cons e t))", "(lambda (t x) (e t x))", "(let-syntax ((n (syntax-rules () ((_ t) (let ((x t)) (cons e x)))))) (n (cons t e)))", "(letrec-syntax ((n (syntax-rules () ((_) e) ((_ q) (let ((x q)) (n)))))) (n e))", "(let ((t e)) "+m.term(deep, in.with("t"))+")")
		}
		s += " ((" + pattern + ") " + template + ")"
	}
	return s + ")"
}

// text is definitions, and what is asked.
func (m maker) text() string {
	var k known
	var names []string
	for i := range m.Intn(6) {
		name := m.name() + m.pick("", strconv.Itoa(i))
		names = append(names, name)
		if i%2 == 0 {
			k = k.withRules(name)
		} else {
			k = k.with(name)
		}
	}
	s := ""
	for i, name := range names {
		switch {
		case i%2 == 0:
			s += "(define-syntax " + name + " " + m.rules(2, name, k) + ")\n"
		case m.Intn(2) == 0:
			s += "(define " + name + " " + m.term(2, k) + ")\n"
		default:
			x := m.name()
			s += "(define (" + name + " " + x + ") " + m.term(2, k.with(x)) + ")\n"
		}
	}
	s += m.term(1+m.Intn(4), k)
	if m.Intn(40) == 0 {
		s += m.pick(" 1", " (define x 1)", " x")
	}
	return s
}

// TestSlow: P601, P602: many texts, by both ways.
func TestSlow(t *testing.T) {
	counts := map[api.Errno]int{}
	m := maker{rand.New(rand.NewSource(2)), 40}
	for range 12000 {
		s := m.text()
		l, _, e := read.Read(s)
		if e != api.OK {
			continue
		}
		counts[checkSlow(t, s, l)]++
	}
	t.Log(counts)
	for err, least := range map[api.Errno]int{api.OK: 2000, api.ErrForm: 2000, api.ErrName: 500, api.ErrTwice: 500, api.ErrMatch: 500, api.ErrDeep: 20} {
		if counts[err] < least {
			t.Errorf("%v: %d times alone", err, counts[err])
		}
	}
}
