package strict

import (
	"slices"

	"thunk/api"
	"thunk/chain"
)

// nobody is where a term stands that is in no function with a name.
const nobody = -1

// finder goes through a term for its functions. What it finds is known at once, by the lists of needs themselves: all is taken to be needed till it shows that it is not.
type finder struct {
	known
	needs   []Need
	lambdas []api.Expr
	callers map[string][]int // by the name of what is called: the functions in whose bodies that stands
}

// term goes through e, which stands in the function of that number, or, as more is looked at again then than need be, in one without a name within that.
func (f *finder) term(e api.Expr, in int) {
	for x, ahead := range chain.Of(e) {
		switch x.Kind {
		case api.ELet:
			f.let(x, in, ahead...)
			continue
		case api.EApp:
			f.call(partOf(x, 0), in)
		}
		f.terms(in, ahead...)
	}
}

func (f *finder) terms(in int, l ...api.Expr) {
	for _, e := range l {
		f.term(e, in)
	}
}

func (f *finder) call(e api.Expr, in int) {
	if e.Kind == api.EVar && in != nobody {
		f.callers[e.Text] = append(f.callers[e.Text], in)
	}
}

// let takes in all functions of a let ahead of those within its values.
func (f *finder) let(e api.Expr, in int, values ...api.Expr) {
	first := len(f.needs)
	for i, name := range e.Names {
		if value := partOf(e, i); value.Kind == api.ELam {
			f.function(name, value)
		}
	}
	for i, value := range values {
		if i < len(e.Names) && value.Kind == api.ELam {
			f.terms(first, value.A...)
			first++
			continue
		}
		f.term(value, in)
	}
}

func (f *finder) function(name string, e api.Expr) {
	need := Need{name, slices.Repeat([]bool{true}, len(e.Names))}
	f.needs = append(f.needs, need)
	f.lambdas = append(f.lambdas, e)
	f.learn(need)
}

// settle takes away what is not needed. What shows of one function may show more of those that call it: they are looked at again.
func (f *finder) settle() {
	l := newLine(len(f.needs))
	for !l.empty() {
		i := l.next()
		if f.lower(i) {
			l.enter(f.callers[f.needs[i].Name]...)
		}
	}
}

// lower takes away what a function's body does not demand, and tells whether there was any such.
func (f *finder) lower(i int) (lowered bool) {
	lambda, of := f.lambdas[i], f.needs[i].Of
	d := f.demandOf(partOf(lambda, 0))
	for j, name := range lambda.Names {
		if of[j] && !d.all && !d.has(name) {
			of[j], lowered = false, true
		}
	}
	return lowered
}

// line is functions that wait to be looked at, none twice.
type line struct {
	l     []int
	waits []bool // of each function
}

// newLine is one in which n functions wait.
func newLine(n int) *line {
	l := &line{nil, make([]bool, n)}
	for i := range n {
		l.enter(i)
	}
	return l
}

func (l *line) empty() bool {
	return len(l.l) == 0
}

func (l *line) enter(numbers ...int) {
	for _, i := range numbers {
		if !l.waits[i] {
			l.l, l.waits[i] = append(l.l, i), true
		}
	}
}

func (l *line) next() int {
	i := l.l[0]
	l.l, l.waits[i] = l.l[1:], false
	return i
}
