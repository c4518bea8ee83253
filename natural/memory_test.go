package natural_test

import (
	"math"
	"slices"
	"strconv"
	"strings"
	"testing"

	"thunk/api"
	"thunk/big"
	"thunk/core"
	"thunk/natural"
)

// roomy is e in memory of its own, something in the spare room of each list.
func roomy(e api.Expr) api.Expr {
	e.Names = append(slices.Clone(e.Names), "spare", "")[:len(e.Names)]
	l := make([]api.Expr, 0, len(e.A)+1)
	for _, part := range e.A {
		l = append(l, roomy(part))
	}
	e.A = append(l, app(variable("spare"), lambda(variable("x"), "spare")))[:len(e.A)]
	return e
}

// dump writes all of e, what stands in spare room too.
func dump(s *strings.Builder, e api.Expr) {
	s.WriteString(strconv.Itoa(e.Kind) + strconv.Quote(e.Text))
	dumpTexts(s, e.Names)
	s.WriteString("[" + strconv.Itoa(len(e.A)) + ":")
	for _, part := range e.A[:cap(e.A)] {
		dump(s, part)
	}
	s.WriteString("]")
}

func dumpTexts(s *strings.Builder, l []string) {
	s.WriteString("[" + strconv.Itoa(len(l)) + ":")
	for _, text := range l[:cap(l)] {
		s.WriteString(strconv.Quote(text))
	}
	s.WriteString("]")
}

func dumpOf(e api.Expr, input []string) string {
	var s strings.Builder
	dump(&s, e)
	dumpTexts(&s, input)
	return s.String()
}

// checkMemory holds that what is handed in stays as it is, what stands in its spare room does not count, and the same is answered again.
func checkMemory(t *testing.T, e api.Expr, input []string, fuel int) answer {
	t.Helper()
	want := eval(e, input, fuel)
	e, input = roomy(e), append(slices.Clone(input), "spare", "1")[:len(input)]
	before := dumpOf(e, input)
	for range 2 {
		if got := eval(e, input, fuel); got != want {
			t.Fatalf("P2, P3: Eval(%s, %q, %d) is %v, then %v", core.Text(e), input, fuel, want, got)
		}
	}
	if dumpOf(e, input) != before {
		t.Fatalf("P2: Eval changed %s", before)
	}
	return want
}

func TestMemory(t *testing.T) {
	m := newMaker(5, false)
	for range 4000 {
		checkMemory(t, m.whole(), m.input(), 500)
	}
}

// TestOwn: who changes what was handed in, changes nothing of what was answered, nor of what is answered of something else.
func TestOwn(t *testing.T) {
	e, input := term(t, "(cons 'a (cons (car input) (lambda (x) x)))"), []string{"1", "2"}
	want := answer{outcome("(a 1 . #<function>)"), 5, 3}
	got := eval(e, input, maxFuel)
	other := roomy(e)
	e.A[0].Text, e.A[1].A[0].Text, input[0] = "spoilt", "cdr", "3"
	if got != want || eval(other, []string{"1"}, maxFuel) != want {
		t.Errorf("P2, P3: %v, not %v", got, want)
	}
	if got := eval(e, input, maxFuel); got.o != outcome("(spoilt (2) . #<function>)") {
		t.Errorf("P3: %v of another term", got)
	}
}

// TestSharedParts: lists that stand at several places of a term are reckoned at each.
func TestSharedParts(t *testing.T) {
	sum := prim("+", variable("x"), integer("1"))
	parts := []api.Expr{sum, sum}
	e := prim("*", api.Expr{Kind: api.EPrim, Text: "-", A: parts}, api.Expr{Kind: api.EPrim, Text: "*", A: parts})
	check(t, app(lambda(e, "x"), integer("4")), nil, "0", 17, 0)
	check(t, prim("cons", app(lambda(e, "x"), integer("4")), app(lambda(sum, "x"), integer("7"))), nil, "(0 . 8)", 23, 2)
}

// TestSideBySide: calls at the same time do not touch one another.
func TestSideBySide(t *testing.T) {
	e, input := term(t, "(let ((f (lambda (n) (if (= n 0) input (f (- n 1)))))) (f 50))"), seven()
	want := eval(e, input, maxFuel)
	answers := make(chan answer)
	for range 8 {
		go func() { answers <- eval(e, input, maxFuel) }()
	}
	for range 8 {
		if got := <-answers; got != want || got.o != outcome("(7 -3)") {
			t.Errorf("P7: %v, not %v", got, want)
		}
	}
}

// wild is any term.
func wild(m maker, most int) api.Expr {
	kinds := []int{api.ELam, api.ELet, api.EVar, api.EApp, api.EPrim, m.Intn(13) - 1}
	e := api.Expr{Kind: kinds[m.Intn(len(kinds))], Text: m.pick("", "x", "f", "1", "#t", "cons", "car", "+", "input", "\xff")}
	for range m.Intn(3) {
		e.Names = append(e.Names, m.pick("", "x", "f", "f", "input"))
	}
	if most > 0 {
		for range m.Intn(5) {
			e.A = append(e.A, wild(m, most-1))
		}
	}
	return e
}

// spoilt is a right term with a fault at one place, or none.
func (m maker) spoilt() api.Expr {
	e := roomy(m.whole())
	at := &e
	for len(at.A) > 0 && m.Intn(4) > 0 {
		at = &at.A[m.Intn(len(at.A))]
	}
	switch m.Intn(8) {
	case 0:
		at.Text = m.pick("", "x", "z", "car", "+", "01")
	case 1:
		at.Kind = m.Intn(13) - 1
	case 2:
		at.Names = append(at.Names, m.pick("", "x", "y"))
	case 3:
		at.A = append(at.A, variable(m.pick("x", "z", "input")))
	case 4:
		at.A = at.A[:max(0, len(at.A)-1)]
	case 5:
		*at = variable(m.pick("x", "z", "input"))
	}
	return e
}

// mayBe tells whether that may be handed in.
func mayBe(e api.Expr, input []string, fuel int) bool {
	for _, text := range input {
		if !big.Right(text) {
			return false
		}
	}
	free := []string{}
	if core.Right(e) {
		free = core.Free(e)
	}
	return core.Right(e) && (len(free) == 0 || slices.Equal(free, []string{"input"})) && fuel >= 0 && fuel <= maxFuel
}

// TestWild: whatever is handed in, the call ends, changes nothing, and answers the same again: nothing, where it may not be handed in.
func TestWild(t *testing.T) {
	m, count := newMaker(6, false), [2]int{}
	for i := range 12000 {
		e := m.spoilt()
		if i%2 == 0 {
			e = wild(m, m.Intn(5))
		}
		input := m.input()
		if m.Intn(8) == 0 {
			input = append(input, m.pick("", "x", "-0", "007", "()", strings.Repeat("1", 201)))
		}
		fuel := []int{500, 1, 0, -1, math.MinInt, math.MaxInt, maxFuel + 1}[max(0, m.Intn(28)-21)]
		got := checkMemory(t, e, input, fuel)
		if !mayBe(e, input, fuel) {
			count[0]++
			if got != (answer{}) {
				t.Fatalf("P8, P9: Eval(%s, %q, %d) is %v", core.Text(e), input, fuel, got)
			}
		} else {
			count[1]++
			if want := slowEval(e, input, fuel, false); got != want {
				t.Fatalf("P1002: Eval(%s, %q, %d) is %v, not %v", core.Text(e), input, fuel, got, want)
			}
		}
	}
	if slices.Min(count[:]) < 1500 {
		t.Errorf("that may not be handed in, and may: %v", count)
	}
}

// TestRefused: what may not be handed in, each for one fault of its own.
func TestRefused(t *testing.T) {
	loop := term(t, "(let ((f (lambda (x) (+ 1 (f x))))) (f 1))")
	for _, fuel := range []int{-1, math.MinInt, maxFuel + 1, math.MaxInt32, math.MaxInt} {
		if got := eval(loop, nil, fuel); got != (answer{}) {
			t.Errorf("P9: with fuel %d: %v", fuel, got)
		}
	}
	for _, text := range []string{"", "-", "-0", "01", "x", "1 ", strings.Repeat("1", api.MaxDigits+1)} {
		if got := eval(integer("1"), []string{"1", text}, 10); got != (answer{}) {
			t.Errorf("P9: with input %q: %v", text, got)
		}
	}
	one := integer("1")
	for _, e := range []api.Expr{
		{}, integer(""), integer("01"), {Kind: api.EBool, Text: "#x"}, symbol(""), variable(""), variable("x"), variable("Input"),
		{Kind: 11}, {Kind: -1}, {Kind: api.EApp, A: []api.Expr{one}}, {Kind: api.EIf, A: []api.Expr{one, one}}, {Kind: api.ELet, A: []api.Expr{one}},
		{Kind: api.ELet, Names: []string{"x"}, A: []api.Expr{one}}, {Kind: api.ELam, Names: []string{"x"}}, lambda(one), lambda(one, "x", "x"), prim("list", one), prim("+", one), prim("car"),
		prim("car", variable("x")), let("x", one, variable("y")), prim("seq", let("x", one, variable("x")), variable("x")), app(lambda(variable("x"), "y"), one), api.Expr{Kind: api.EIf, A: []api.Expr{one, one, variable("x")}},
	} {
		if got := eval(e, nil, maxFuel); got != (answer{}) {
			t.Errorf("P8: Eval(%s) is %v", core.Text(e), got)
		}
	}
	if o, steps, uses := natural.Eval(integer("5"), nil, 1); o != outcome("5") || steps != 1 || uses != 0 {
		t.Errorf("P1002: Eval(5) with fuel 1 is %v, %d, %d", o, steps, uses)
	}
	if got := eval(integer("5"), nil, 0); got != (answer{outcome("! fuel"), 1, 0}) {
		t.Errorf("P1002: Eval(5) with fuel 0 is %v", got)
	}
}
