package machine_test

import (
	"slices"
	"testing"

	"thunk/api"
	"thunk/core"
	"thunk/lift"
	"thunk/machine"
	"thunk/natural"
)

// The bounds of the promises.
const (
	maxHeap    = 1000000
	maxFuel    = 10000000
	meantFuel  = 100000 // within which a program is asked for what it means
	mostOfSize = 200    // up to which a heap may be told to be enough
)

// meaning is what a program means, and what it takes to find that out.
type meaning struct {
	p           api.Prog
	o           api.Outcome
	steps, uses int
	size        int
}

func meaningOf(p api.Prog, input []string) meaning {
	o, steps, uses := natural.Eval(whole(p), input, meantFuel)
	size := core.Size(p.Main)
	for _, sup := range p.Sups {
		size += core.Size(sup.Body)
	}
	return meaning{p, o, steps, uses, size}
}

// enoughFuel and enoughHeap are how much there must be so that it does not run short.
func (n meaning) enoughFuel() int { return 100*n.steps + 1000 }
func (n meaning) enoughHeap() int { return 1000*n.steps + 50000 }

// ends tells whether a run ends within what is enough.
func (n meaning) ends(early bool) bool {
	return n.o.Kind == api.Printed || n.o.Kind != api.NoFuel && !early
}

// mayCome tells whether a run of it may come to that.
func (n meaning) mayCome(o api.Outcome, c api.Config) bool {
	plain := o.At == 0 && (o.Text == "" || o.Kind == api.Printed || o.Kind == api.Failed)
	short := o == api.Outcome{Kind: api.NoHeap} || o == api.Outcome{Kind: api.NoFuel}
	switch {
	case !plain || o.Kind < api.Printed || o.Kind > api.Limit || o.Kind == api.Rejected:
		return false
	case n.ends(c.Early) && o.Kind == api.NoFuel && c.Fuel >= n.enoughFuel():
		return false
	case n.ends(c.Early) && o.Kind == api.NoHeap && c.Heap >= n.enoughHeap() && n.size <= mostOfSize:
		return false
	case n.o.Kind == api.NoFuel:
		return true
	case c.Early && n.o.Kind != api.Printed:
		return o.Kind != api.Printed
	}
	return short || o == n.o
}

// asked is how many steps of l there were, each once.
func asked(l []int, steps int) (n int) {
	l = slices.Clone(l)
	slices.Sort(l)
	for _, step := range slices.Compact(l) {
		if step >= 1 && step <= steps {
			n++
		}
	}
	return n
}

// checkStats holds what was counted against P1302.
func (n meaning) checkStats(t *testing.T, o api.Outcome, s machine.Stats, c api.Config) {
	t.Helper()
	fault := ""
	switch {
	case s.Steps < 0 || s.Steps > c.Fuel || o.Kind == api.NoFuel && s.Steps != c.Fuel:
		fault = "Steps"
	case s.Twice != 0:
		fault = "Twice"
	case s.Updated < 0 || s.Updated > s.Entered || s.Entered > s.Thunks:
		fault = "Updated, Entered, Thunks"
	case !c.Early && n.o.Kind == api.Printed && s.Entered > n.uses:
		fault = "Entered"
	case s.Collections < asked(c.Gc, s.Steps):
		fault = "Collections"
	case s.Words < 0 || s.Words > c.Heap:
		fault = "Words"
	}
	if fault != "" {
		t.Fatalf("P1302: %s: %+v, where it comes to %v, with %+v, of\n%s", fault, s, o, c, short(n.p))
	}
}

// short is a program's text, or how it begins.
func short(p api.Prog) string {
	text := lift.Text(p)
	return text[:min(len(text), 1000)]
}

// run holds a run against the promises.
func (n meaning) run(t *testing.T, c api.Config) (api.Outcome, machine.Stats) {
	t.Helper()
	o, s := machine.Run(n.p, c)
	if !n.mayCome(o, c) {
		c.Gc = c.Gc[:min(len(c.Gc), 20)]
		t.Fatalf("P1301: %v, not %v in %d steps, with %+v, %+v, of\n%s", o, n.o, n.steps, c, s, short(n.p))
	}
	n.checkStats(t, o, s, c)
	return o, s
}

// upTo are the numbers from 1 on.
func upTo(n int) (l []int) {
	for i := range n {
		l = append(l, i+1)
	}
	return l
}
