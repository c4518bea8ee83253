package run_test

import (
	"testing"

	"thunk/api"
	"thunk/core"
	"thunk/expand"
	"thunk/natural"
	"thunk/read"
)

const (
	meantFuel  = 100000 // within which a text is asked for what it means
	mostOfSize = 200    // up to which a heap may be told to be enough
)

// whole is p as one term.
func whole(p api.Prog) api.Expr {
	if len(p.Sups) == 0 {
		return p.Main
	}
	e := api.Expr{Kind: api.ELet}
	for _, sup := range p.Sups {
		e.Names = append(e.Names, sup.Name)
		e.A = append(e.A, api.Expr{Kind: api.ELam, Names: sup.Params, A: []api.Expr{sup.Body}})
	}
	e.A = append(e.A, p.Main)
	return e
}

// meaning is what a text means, and how many steps its program takes to find that out.
type meaning struct {
	src         string
	o           api.Outcome
	steps, size int
	rejected    bool
}

// meaningOf is what src means: as its term does (T1), which its program must mean, too (T3).
func meaningOf(t *testing.T, src string, input []string) meaning {
	t.Helper()
	p, at, e := compiled(t, src)
	if e != api.OK {
		return meaning{src: src, o: api.Outcome{Kind: api.Rejected, Text: e.Error(), At: at}, rejected: true}
	}
	l, _, _ := read.Read(src)
	term, _, _ := expand.Expand(l)
	first, _, _ := natural.Eval(term, input, meantFuel)
	n := meaning{src: src, size: core.Size(p.Main)}
	n.o, n.steps, _ = natural.Eval(whole(p), input, meantFuel)
	if first != n.o && first.Kind != api.NoFuel && n.o.Kind != api.NoFuel {
		t.Fatalf("T3: %v, its program %v, of\n%s", first, n.o, src)
	}
	for _, sup := range p.Sups {
		n.size += core.Size(sup.Body)
	}
	return n
}

// enoughFuel and enoughHeap are how much there must be so that it does not run short.
func (n meaning) enoughFuel() int { return 100*n.steps + 1000 }
func (n meaning) enoughHeap() int { return 1000*n.steps + 50000 }

// ends tells whether a run ends within what is enough.
func (n meaning) ends(early bool) bool {
	return n.o.Kind == api.Printed || n.o.Kind != api.NoFuel && !early
}

// mayCome tells whether a run of it may come to that.
func (n meaning) mayCome(o api.Outcome, c api.Config) bool {
	plain := o.At == 0 && (o.Text == "" || o.Kind == api.Printed || o.Kind == api.Failed)
	short := o == api.Outcome{Kind: api.NoHeap} || o == api.Outcome{Kind: api.NoFuel}
	switch {
	case n.rejected:
		return o == n.o
	case !plain || o.Kind < api.Printed || o.Kind > api.Limit || o.Kind == api.Rejected:
		return false
	case n.ends(c.Early) && o.Kind == api.NoFuel && c.Fuel >= n.enoughFuel():
		return false
	case n.ends(c.Early) && o.Kind == api.NoHeap && c.Heap >= n.enoughHeap() && n.size <= mostOfSize:
		return false
	case n.o.Kind == api.NoFuel:
		return true
	case c.Early && n.o.Kind != api.Printed:
		return o.Kind != api.Printed
	}
	return short || o == n.o
}

// run holds a run against what the text means.
func (n meaning) run(t *testing.T, c api.Config) api.Outcome {
	t.Helper()
	o := checkRun(t, n.src, c)
	if !n.mayCome(o, c) {
		c.Gc = c.Gc[:min(len(c.Gc), 20)]
		t.Fatalf("P1402: %v, not %v in %d steps, with %+v, of\n%s", o, n.o, n.steps, c, n.src)
	}
	return o
}

// upTo are the numbers from 1 on.
func upTo(n int) (l []int) {
	for i := range n {
		l = append(l, i+1)
	}
	return l
}
