package natural_test

import (
	"testing"

	"thunk/api"
	"thunk/core"
	"thunk/lift"
	"thunk/norm"
)

// tally counts outcomes, and tells whether there was enough of each.
type tally map[string]int

func (c tally) count(o api.Outcome) {
	what := map[int]string{api.Printed: "printed", api.Loop: "loop", api.NoFuel: "fuel", api.Limit: "limit"}[o.Kind]
	if o.Kind == api.Failed {
		what = o.Text[:4]
	}
	c[what]++
}

func (c tally) check(t *testing.T, least int) {
	t.Helper()
	for _, what := range []string{"printed", "loop", "fuel", "limit", "appl", "numb", "zero", "pair", "erro"} {
		if c[what] < least {
			t.Errorf("only %d of %s: %v", c[what], what, c)
		}
	}
}

// checkSlow holds Eval against the slow way, with all fuel, and with less.
func checkSlow(t *testing.T, m maker, e api.Expr, input []string, fuel int) answer {
	t.Helper()
	got, want := eval(e, input, fuel), slowEval(e, input, fuel, false)
	if got != want {
		t.Fatalf("P1001, P1002: Eval(%s, %q, %d) is %v, not %v", core.Text(e), input, fuel, got, want)
	}
	less := m.Intn(got.steps)
	if got, want := eval(e, input, less), slowEval(e, input, less, false); got != want || want.o.Kind != api.NoFuel || want.steps != less+1 {
		t.Fatalf("P1001, P1002: Eval(%s, %q, %d) is %v, not %v", core.Text(e), input, less, got, want)
	}
	return got
}

func TestManyEval(t *testing.T) {
	count := tally{}
	for i, apart := range []bool{true, false} {
		m := newMaker(int64(i), apart)
		for range 12000 {
			count.count(checkSlow(t, m, m.whole(), m.input(), 2000).o)
		}
	}
	count.check(t, 60)
}

// TestByName: to reckon a thing once is the same as to reckon it each time, but for how long it takes: and what is a loop never ends.
func TestByName(t *testing.T) {
	m, count := newMaker(3, false), tally{}
	for range 8000 {
		e, input := m.whole(), m.input()
		got, want := eval(e, input, 1000), slowEval(e, input, 2000, true)
		switch {
		case want.o.Kind == api.NoFuel:
		case got.o != want.o || got.steps > want.steps:
			t.Fatalf("T1: Eval(%s, %q) is %v, by name %v", core.Text(e), input, got, want)
		default:
			count.count(got.o)
		}
		if got.o.Kind == api.Loop && want.o.Kind != api.NoFuel {
			t.Fatalf("T1: Eval(%s, %q) is %v, by name %v", core.Text(e), input, got, want)
		}
	}
	count["loop"], count["fuel"] = 10, 10
	count.check(t, 10)
}

// whole is p as one term.
func whole(p api.Prog) api.Expr {
	if len(p.Sups) == 0 {
		return p.Main
	}
	e := api.Expr{Kind: api.ELet}
	for _, sup := range p.Sups {
		e.Names = append(e.Names, sup.Name)
		e.A = append(e.A, lambda(sup.Body, sup.Params...))
	}
	e.A = append(e.A, p.Main)
	return e
}

// checkSame holds what e comes to against what it comes to with names for arguments, and with functions of their own.
func checkSame(t *testing.T, e api.Expr, input []string, fuel int) answer {
	t.Helper()
	want := eval(e, input, fuel)
	if want.o.Kind == api.NoFuel {
		return want
	}
	for _, other := range []api.Expr{norm.Norm(e), whole(lift.Lift(e)), whole(lift.Lift(norm.Norm(e)))} {
		if got := eval(other, input, maxFuel); got.o != want.o {
			t.Fatalf("T3: Eval(%s, %q) is %v, of %s it is %v", core.Text(e), input, want, core.Text(other), got)
		}
	}
	return want
}

func TestManySame(t *testing.T) {
	m, count := newMaker(4, true), tally{}
	for range 8000 {
		count.count(checkSame(t, m.whole(), m.input(), 1000).o)
	}
	count.check(t, 10)
}

// FuzzEval may be given more time by hand: go test -fuzz FuzzEval ./natural
func FuzzEval(f *testing.F) {
	for i := range int64(20) {
		f.Add(i)
	}
	f.Fuzz(func(t *testing.T, seed int64) {
		m := newMaker(seed, seed%2 == 0)
		e, input := m.term(m.Intn(forAny+1), m.Intn(10), []named{{"input", forList}}), m.input()
		checkSlow(t, m, e, input, 3000)
		if m.apart {
			checkSame(t, e, input, 1000)
		}
	})
}
