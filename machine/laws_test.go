package machine_test

import (
	"strings"
	"testing"

	"thunk/api"
	"thunk/lift"
	"thunk/natural"
	"thunk/norm"
)

// tally counts outcomes.
type tally map[string]int

func (c tally) count(o api.Outcome) {
	what := map[int]string{api.Printed: "printed", api.Loop: "loop", api.NoFuel: "fuel", api.NoHeap: "heap", api.Limit: "limit"}[o.Kind]
	if o.Kind == api.Failed {
		what = o.Text[:4]
	}
	c[what]++
}

func (c tally) check(t *testing.T, least int) {
	t.Helper()
	for _, what := range strings.Fields("printed loop fuel heap limit appl numb zero pair erro") {
		if c[what] < least {
			t.Errorf("only %d of %s: %v", c[what], what, c)
		}
	}
}

// steps are numbers of steps, some of which may not be, or are there twice.
func (m maker) steps() (l []int) {
	switch m.Intn(4) {
	case 0:
		return nil
	case 1:
		return upTo(m.Intn(300))
	}
	for range m.Intn(30) {
		l = append(l, m.Intn(1+m.Intn(500))-3)
	}
	return l
}

// config is one for a program of that meaning, mostly with enough of all and no more.
func (m maker) config(n meaning, input []string) api.Config {
	c := api.Config{Heap: min(n.enoughHeap(), maxHeap), Fuel: min(n.enoughFuel(), 300000), Gc: m.steps(), Early: m.Intn(2) == 0, Input: input}
	if n.o.Kind == api.NoFuel {
		c.Fuel = 5000
	}
	switch m.Intn(6) {
	case 0:
		c.Heap = m.Intn(20 + m.Intn(500))
	case 1:
		c.Heap = m.Intn(3000)
	case 2:
		c.Fuel = m.Intn(1 + m.Intn(500))
	}
	return c
}

// takesLong tells whether it takes very many steps to find out what p means.
func takesLong(p api.Prog, input []string) bool {
	o, _, _ := natural.Eval(whole(p), input, 3000)
	return o.Kind == api.NoFuel
}

// checkSame holds that when it is collected does not tell (T5): neither in what a run comes to, nor in how many steps.
func (n meaning) checkSame(t *testing.T, m maker, c api.Config) {
	t.Helper()
	o, s := n.run(t, c)
	c.Gc, c.Heap = m.steps(), maxHeap
	if other, sOther := n.run(t, c); o.Kind != api.NoHeap && other.Kind != api.NoHeap && (other != o || sOther.Steps != s.Steps) {
		t.Fatalf("T5: %v, %+v, otherwise collected %v, %+v, of\n%s", o, s, other, sOther, short(n.p))
	}
}

// checkOne holds p against what it means, three times.
func checkOne(t *testing.T, m maker, p api.Prog, input []string, count tally) {
	t.Helper()
	if !lift.Right(p) {
		t.Fatalf("no program: %s", short(p))
	}
	if takesLong(p, input) && m.Intn(20) > 0 {
		return
	}
	n := meaningOf(p, input)
	for range 2 {
		o, _ := n.run(t, m.config(n, input))
		count.count(o)
	}
	n.checkSame(t, m, m.config(n, input))
}

// lifted is a program that is made of a term.
func lifted(m maker) api.Prog {
	e := m.whole()
	if m.Intn(2) == 0 {
		e = norm.Norm(e)
	}
	return lift.Lift(e)
}

// TestMany: of programs of all kinds, with much and with little of all.
func TestMany(t *testing.T) {
	for i, made := range []func(m maker) api.Prog{lifted, sups} {
		m, count := newMaker(int64(i), true), tally{}
		for range 5000 {
			checkOne(t, m, made(m), m.input(), count)
		}
		count.check(t, 20)
	}
}

// FuzzRun may be given more time by hand: go test -fuzz FuzzRun ./machine
func FuzzRun(f *testing.F) {
	for i := range int64(20) {
		f.Add(i)
	}
	f.Fuzz(func(t *testing.T, seed int64) {
		m := newMaker(seed, true)
		p := lifted(m)
		if seed%2 == 0 {
			p = sups(m)
		}
		checkOne(t, m, p, m.input(), tally{})
	})
}
