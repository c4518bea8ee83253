package machine_test

import (
	"math"
	"slices"
	"strconv"
	"strings"
	"testing"

	"thunk/api"
	"thunk/lift"
	"thunk/machine"
)

// answer is all that Run answers.
type answer struct {
	o api.Outcome
	s machine.Stats
}

func answerOf(p api.Prog, c api.Config) answer {
	o, s := machine.Run(p, c)
	return answer{o, s}
}

// enough is a config for what is small.
func enough() api.Config {
	return api.Config{Heap: 10000, Fuel: 10000, Gc: []int{3}, Input: seven()}
}

// TestWrongPrograms: of what is no program nothing is answered (P8).
func TestWrongPrograms(t *testing.T) {
	for _, s := range []string{
		"x", "(x 1)", "(let ((x 1)) y)", "f x = x|x", "f x = x|(g 1)", "f x = y|f", "f x = x|g y = x|f", "f = 1|f", "f x x = x|f", "f x = x|f x = x|f", "f f = f|f", "f g = g|g x = x|f",
		"(lambda (x) x)", "(let ((f (lambda (x) x))) (f 1))", "f x = (lambda (y) x)|f", "f x = x|(f (f 1))", "(cons (car input) 1)", "f x = (cons 1 (cons 2 x))|f",
		"01", "#x", "(if 1 2)", "(car 1 2)", "(+ 1)", "(let () 1)", "f x = (let ((y 1) (y 2)) y)|f", "f x = (f)|f", "f x = -0|1", strings.Repeat("9", api.MaxDigits+1),
	} {
		for _, early := range []bool{false, true} {
			c := enough()
			c.Early = early
			if got := answerOf(anyProgram(t, s), c); got != (answer{}) {
				t.Errorf("P8: Run of %s is %+v", s, got)
			}
		}
	}
	for _, p := range []api.Prog{{}, {Main: variable("")}, {Main: api.Expr{Kind: 11}}, {Main: prim("list", integer("1"))}, {Sups: []api.Sup{{}}, Main: integer("1")}, {Sups: []api.Sup{{Name: "f", Params: []string{""}, Body: integer("1")}}, Main: integer("1")}} {
		if got := answerOf(p, enough()); got != (answer{}) {
			t.Errorf("P8: Run of %+v is %+v", p, got)
		}
	}
}

// TestWrongConfigs: numbers that are out of bounds are refused (P9), and so is what is read, if it is no numbers; the bounds themselves are not.
func TestWrongConfigs(t *testing.T) {
	p := program(t, "f x = (car x)|(f input)")
	for _, change := range []func(c *api.Config){
		func(c *api.Config) { c.Heap = -1 }, func(c *api.Config) { c.Heap = maxHeap + 1 }, func(c *api.Config) { c.Heap = math.MaxInt }, func(c *api.Config) { c.Heap = math.MinInt },
		func(c *api.Config) { c.Fuel = -1 }, func(c *api.Config) { c.Fuel = maxFuel + 1 }, func(c *api.Config) { c.Fuel = math.MaxInt }, func(c *api.Config) { c.Fuel = math.MinInt },
		func(c *api.Config) { c.Input = []string{""} }, func(c *api.Config) { c.Input = []string{"1", "x"} }, func(c *api.Config) { c.Input = []string{"7", "-0"} }, func(c *api.Config) { c.Input = []string{"7", "01", "8"} }, func(c *api.Config) { c.Input = []string{"7", strings.Repeat("1", api.MaxDigits+1)} }, func(c *api.Config) { c.Input = []string{"7", "+1"} },
	} {
		c := enough()
		change(&c)
		if got := answerOf(p, c); got != (answer{}) {
			t.Errorf("P8, P9: Run with heap %d, fuel %d, input %.10q is %+v", c.Heap, c.Fuel, c.Input, got)
		}
	}
	for _, c := range []api.Config{{Heap: maxHeap, Fuel: maxFuel, Input: seven()}, {Heap: maxHeap, Fuel: 100, Gc: []int{math.MaxInt, math.MinInt, -1, 0}, Input: []string{"7", "-" + strings.Repeat("9", api.MaxDigits)}}} {
		if got := answerOf(p, c); got.o != outcome("7") {
			t.Errorf("P1301: %v", got)
		}
	}
	for _, c := range []struct {
		heap, fuel int
		want       string
	}{{0, 0, "! heap"}, {0, maxFuel, "! heap"}, {maxHeap, 0, "! fuel"}, {1, 1, "! heap"}} {
		if got := answerOf(p, api.Config{Heap: c.heap, Fuel: c.fuel, Input: seven()}); got.o != outcome(c.want) || got.s.Steps != 0 {
			t.Errorf("P1301: with heap %d, fuel %d: %v", c.heap, c.fuel, got)
		}
	}
}

// roomy is e in memory of its own, something in the spare room of each list.
func roomy(e api.Expr) api.Expr {
	e.Names = append(slices.Clone(e.Names), "spare", "")[:len(e.Names)]
	l := make([]api.Expr, 0, len(e.A)+1)
	for _, part := range e.A {
		l = append(l, roomy(part))
	}
	e.A = append(l, app(variable("spare"), lambda(variable("x"), "spare")))[:len(e.A)]
	return e
}

func roomyProgram(p api.Prog) (made api.Prog) {
	for _, s := range p.Sups {
		params := append(slices.Clone(s.Params), "spare", "")[:len(s.Params)]
		made.Sups = append(made.Sups, api.Sup{Name: s.Name, Params: params, Body: roomy(s.Body)})
	}
	made.Sups = append(made.Sups, api.Sup{Name: "spare"})[:len(p.Sups)]
	made.Main = roomy(p.Main)
	return made
}

func roomyConfig(c api.Config) api.Config {
	c.Gc = append(slices.Clone(c.Gc), 1, 2, 3, 4, 5)[:len(c.Gc)]
	c.Input = append(slices.Clone(c.Input), "spare", "1")[:len(c.Input)]
	return c
}

// dump writes all of e, what stands in spare room too.
func dump(s *strings.Builder, e api.Expr) {
	s.WriteString(strconv.Itoa(e.Kind) + strconv.Quote(e.Text))
	dumpTexts(s, e.Names)
	s.WriteString("[" + strconv.Itoa(len(e.A)) + ":")
	for _, part := range e.A[:cap(e.A)] {
		dump(s, part)
	}
	s.WriteString("]")
}

func dumpTexts(s *strings.Builder, l []string) {
	s.WriteString("[" + strconv.Itoa(len(l)) + ":")
	for _, text := range l[:cap(l)] {
		s.WriteString(strconv.Quote(text))
	}
	s.WriteString("]")
}

func dumpOf(p api.Prog, c api.Config) string {
	var s strings.Builder
	for _, f := range p.Sups[:cap(p.Sups)] {
		s.WriteString(f.Name)
		dumpTexts(&s, f.Params)
		dump(&s, f.Body)
	}
	dump(&s, p.Main)
	dumpTexts(&s, c.Input)
	for _, n := range c.Gc[:cap(c.Gc)] {
		s.WriteString(" " + strconv.Itoa(n))
	}
	return s.String()
}

// checkMemory holds that what is handed in stays as it is, what stands in its spare room does not count, and the same is answered again.
func checkMemory(t *testing.T, p api.Prog, c api.Config) answer {
	t.Helper()
	want := answerOf(p, c)
	p, c = roomyProgram(p), roomyConfig(c)
	before := dumpOf(p, c)
	for range 2 {
		if got := answerOf(p, c); got != want {
			t.Fatalf("P2, P3: %+v, then %+v, of\n%s", want, got, short(p))
		}
	}
	if dumpOf(p, c) != before {
		t.Fatalf("P2: Run changed %s", before)
	}
	return want
}

func TestMemory(t *testing.T) {
	m := newMaker(5, true)
	for i := range 3000 {
		p, input := lifted(m), m.input()
		if i%2 == 0 {
			p = sups(m)
		}
		checkMemory(t, p, api.Config{Heap: 500 + m.Intn(20000), Fuel: m.Intn(500), Gc: m.steps(), Early: i%4 < 2, Input: input})
	}
}

// TestOwn: who changes what was handed in changes nothing of what is answered then of something else.
func TestOwn(t *testing.T) {
	p, c := program(t, "f x = (cons 'a x)|(f input)"), enough()
	want := answerOf(p, c)
	other := roomyProgram(p)
	p.Sups[0].Body.A[0].Text, c.Input[0], c.Gc[0] = "spoilt", "5", 1
	if got := answerOf(other, enough()); got != want || got.o != outcome("(a 7 -3)") {
		t.Errorf("P2, P3: %v, not %v", got, want)
	}
	if got := answerOf(p, c); got.o != outcome("(spoilt 5 -3)") {
		t.Errorf("P3: %v of another program", got)
	}
}

// TestSideBySide: calls at the same time do not touch one another.
func TestSideBySide(t *testing.T) {
	p := compiled(t, mapFold+"(cons (fold + 0 input) (map (lambda (x) (* x x)) input))")
	c := api.Config{Heap: 200, Fuel: 10000, Gc: upTo(100), Early: true, Input: seven()}
	want := answerOf(p, c)
	answers := make(chan answer)
	for range 8 {
		go func() { answers <- answerOf(p, c) }()
	}
	for range 8 {
		if got := <-answers; got != want || got.o != outcome("(4 49 9)") {
			t.Errorf("P7: %v, not %v", got, want)
		}
	}
}

// wild is any term.
func wild(m maker, most int) api.Expr {
	kinds := []int{api.ELam, api.ELet, api.EVar, api.EApp, api.EPrim, m.Intn(13) - 1}
	e := api.Expr{Kind: kinds[m.Intn(len(kinds))], Text: m.pick("", "x", "f", "1", "#t", "cons", "car", "+", "input", "\xff")}
	for range m.Intn(3) {
		e.Names = append(e.Names, m.pick("", "x", "f", "f", "input"))
	}
	if most > 0 {
		for range m.Intn(5) {
			e.A = append(e.A, wild(m, most-1))
		}
	}
	return e
}

// spoil changes a program at one place, for better or for worse.
func (m maker) spoil(p *api.Prog) {
	at := &p.Main
	if len(p.Sups) > 0 && m.Intn(3) > 0 {
		s := &p.Sups[m.Intn(len(p.Sups))]
		at = &s.Body
		switch m.Intn(8) {
		case 0:
			s.Name = m.pick("", "f", "g", "x", "input")
		case 1:
			s.Params = append(s.Params, m.pick("", "f", "x", "input", "z"))
		case 2:
			s.Params = nil
		}
	}
	for len(at.A) > 0 && m.Intn(4) > 0 {
		at = &at.A[m.Intn(len(at.A))]
	}
	switch m.Intn(7) {
	case 0:
		at.Text = m.pick("", "x", "z", "car", "+", "01")
	case 1:
		at.Kind = m.Intn(13) - 1
	case 2:
		at.Names = append(at.Names, m.pick("", "x", "y"))
	case 3:
		at.A = append(at.A, variable(m.pick("x", "z", "input")))
	case 4:
		at.A = at.A[:max(0, len(at.A)-1)]
	case 5:
		*at = variable(m.pick("x", "z", "input"))
	}
}

// TestWild: whatever is handed in, the call ends, changes nothing, and answers nothing, if it may not be handed in.
func TestWild(t *testing.T) {
	m, right := newMaker(7, true), 0
	for i := range 10000 {
		p := api.Prog{Main: wild(m, m.Intn(5))}
		for range m.Intn(3) {
			p.Sups = append(p.Sups, api.Sup{Name: m.pick("", "f", "g", "x"), Params: []string{m.pick("", "x", "y"), m.pick("z", "x", "f")}[m.Intn(3):], Body: wild(m, m.Intn(4))})
		}
		if i%2 == 0 {
			p = roomyProgram(sups(m))
			m.spoil(&p)
		}
		c := api.Config{Heap: m.Intn(2000) - 20, Fuel: m.Intn(2000) - 20, Gc: m.steps(), Early: i%3 == 0, Input: []string{"7", m.pick("", "1", "2", "3", "4")}[m.Intn(3):]}
		got := checkMemory(t, p, c)
		may := lift.Right(p) && c.Heap >= 0 && c.Fuel >= 0 && !slices.Contains(c.Input, "")
		if may != (got.o.Kind != 0) || !may && got != (answer{}) {
			t.Fatalf("P8: %+v with %+v of\n%s", got, c, short(p))
		}
		if may {
			right++
		}
	}
	if right < 1000 {
		t.Errorf("only %d were right", right)
	}
}
