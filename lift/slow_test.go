package lift_test

import (
	"math/rand"
	"slices"
	"strconv"
	"strings"
	"testing"

	"thunk/api"
	"thunk/core"
	"thunk/lift"
	"thunk/norm"
	"thunk/strict"
)

// maker makes right terms, nothing free in them but input; each name is bound once: by what it was and a number.
type maker struct {
	*rand.Rand
	bound *int
	takes map[string]int // how many the functions with names take
	bases []string
}

func newMaker(seed int64) maker {
	return maker{rand.New(rand.NewSource(seed)), new(int), map[string]int{}, []string{"f", "g", "x", "é", "", "%", ".", "input", "cons"}}
}

// clear forgets what is bound.
func (m maker) clear() {
	*m.bound = m.Intn(2) * 7
	clear(m.takes)
}

func (m maker) pick(texts ...string) string { return texts[m.Intn(len(texts))] }

// name is one of those that are there, the last ones most.
func (m maker) name(there []string) string {
	if n := len(there); n > 0 && m.Intn(12) > 0 {
		return there[n-1-m.Intn(min(n, 3+m.Intn(6)))]
	}
	return "input"
}

// names are one or more.
func (m maker) names() (l []string) {
	for range 1 + m.Intn(3) {
		*m.bound++
		l = append(l, m.pick(m.bases...)+"."+strconv.Itoa(*m.bound))
	}
	return l
}

// parts are n terms, each within so many more.
func (m maker) parts(n, most int, there []string) (l []api.Expr) {
	for range n {
		l = append(l, m.term(most-1, there))
	}
	return l
}

func (m maker) atom(there []string) api.Expr {
	switch m.Intn(14) {
	case 0, 1:
		return integer(m.pick("0", "1", "2", "-1"))
	case 2:
		return api.Expr{Kind: api.EBool, Text: m.pick("#t", "#f")}
	case 3:
		return api.Expr{Kind: api.ENil}
	case 4:
		return api.Expr{Kind: api.ESym, Text: m.name(there)}
	}
	return variable(m.name(there))
}

func (m maker) lambda(most int, there []string) api.Expr {
	l := m.names()
	return api.Expr{Kind: api.ELam, Names: l, A: m.parts(1, most, slices.Concat(there, l))}
}

// letOf binds functions, mostly.
func (m maker) letOf(most int, there []string) api.Expr {
	e := api.Expr{Kind: api.ELet, Names: m.names()}
	there = slices.Concat(there, e.Names)
	isLambda := make([]bool, len(e.Names))
	for i, name := range e.Names {
		if isLambda[i] = m.Intn(3) > 0; isLambda[i] {
			m.takes[name] = 1 + m.Intn(3)
		}
	}
	for i, name := range e.Names {
		if !isLambda[i] {
			e.A = append(e.A, m.term(most-1, there))
			continue
		}
		value := api.Expr{Kind: api.ELam}
		for len(value.Names) < m.takes[name] {
			value.Names = append(value.Names, m.names()...)
		}
		value.Names = value.Names[:m.takes[name]]
		value.A = m.parts(1, most, slices.Concat(there, value.Names))
		e.A = append(e.A, value)
	}
	e.A = append(e.A, m.term(most-1, there))
	return e
}

// call is mostly of a name, with as many as it takes.
func (m maker) call(most int, there []string) api.Expr {
	f, n := variable(m.name(there)), 1+m.Intn(3)
	if m.Intn(4) == 0 {
		f = m.term(most-1, there)
	}
	if takes := m.takes[f.Text]; takes > 0 && m.Intn(4) > 0 {
		n = takes
	}
	return app(append([]api.Expr{f}, m.parts(n, most, there)...)...)
}

func (m maker) term(most int, there []string) api.Expr {
	if most <= 0 || m.Intn(9) == 0 {
		return m.atom(there)
	}
	switch m.Intn(10) {
	case 0, 1:
		return m.lambda(most, there)
	case 2, 3, 4:
		return m.call(most, there)
	case 5:
		return api.Expr{Kind: api.EIf, A: m.parts(3, most, there)}
	case 6, 7, 8:
		return m.letOf(most, there)
	}
	if m.Intn(2) == 0 {
		return prim(m.pick("car", "not", "pair?", "null?"), m.parts(1, most, there)...)
	}
	return prim(m.pick("+", "seq", "eq?", "<", "cons"), m.parts(2, most, there)...)
}

// alike tells whether two terms are one.
func alike(a, b api.Expr) bool {
	return a.Kind == b.Kind && a.Text == b.Text && slices.Equal(a.Names, b.Names) && slices.EqualFunc(a.A, b.A, alike)
}

// alikePrograms tells whether two programs are one.
func alikePrograms(a, b api.Prog) bool {
	return alike(a.Main, b.Main) && slices.EqualFunc(a.Sups, b.Sups, func(a, b api.Sup) bool {
		return a.Name == b.Name && slices.Equal(a.Params, b.Params) && alike(a.Body, b.Body)
	})
}

// place is where a function stands: which part of the whole, which part of this, ..; of one with a name -1 is behind where its let stands.
type place struct {
	at     []int
	name   string
	lambda api.Expr
}

// slowFunctions are all in e that a let names, or all others, put in order by their places.
func slowFunctions(e api.Expr, named bool) (all []place) {
	var walk func(e api.Expr, at []int, name string)
	walk = func(e api.Expr, at []int, name string) {
		if e.Kind == api.ELam && named == (name != "") {
			p := place{slices.Clone(at), name, e}
			if named {
				p.at = slices.Insert(p.at, len(at)-1, -1)
			}
			all = append(all, p)
		}
		for i, part := range e.A {
			name := ""
			if e.Kind == api.ELet && i < len(e.Names) {
				name = e.Names[i]
			}
			walk(part, append(slices.Clone(at), i), name)
		}
	}
	walk(e, nil, "")
	slices.SortFunc(all, func(a, b place) int { return slices.Compare(a.at, b.at) })
	return all
}

// slowNamed is (1): each place is asked for its number.
func slowNamed(all []place, e api.Expr, at []int) api.Expr {
	made := e
	made.A = nil
	for i, part := range e.A {
		made.A = append(made.A, slowNamed(all, part, append(slices.Clone(at), i)))
	}
	i := slices.IndexFunc(all, func(p place) bool { return slices.Equal(p.at, at) })
	if i < 0 {
		return made
	}
	name := "%l." + strconv.Itoa(i+1)
	return let(name, made, variable(name))
}

// slowExtras is (2): what is free in each function, then what those need that are free in it, till nothing changes.
func slowExtras(all []place) map[string][]string {
	functions := map[string]bool{}
	extras := map[string][]string{}
	for _, f := range all {
		functions[f.name] = true
	}
	for changed := true; changed; {
		changed = false
		for _, f := range all {
			var l []string
			for _, name := range core.Free(f.lambda) {
				if functions[name] {
					l = append(l, extras[name]...)
				} else if name != "input" {
					l = append(l, name)
				}
			}
			slices.Sort(l)
			l = slices.Compact(l)
			if !slices.Equal(l, extras[f.name]) {
				extras[f.name], changed = l, true
			}
		}
	}
	return extras
}

// slowCalls is (3).
func slowCalls(extras map[string][]string, e api.Expr) api.Expr {
	made := e
	made.A = nil
	for _, part := range e.A {
		made.A = append(made.A, slowCalls(extras, part))
	}
	if l := extras[e.Text]; e.Kind == api.EVar && len(l) > 0 {
		made = app(e)
		for _, name := range l {
			made.A = append(made.A, variable(name))
		}
	}
	if e.Kind == api.EApp && e.A[0].Kind == api.EVar && len(extras[e.A[0].Text]) > 0 {
		made.A = append(made.A[0].A, made.A[1:]...)
	}
	return made
}

// slowLeft is what is left of e without its functions, of (4).
func slowLeft(e api.Expr) api.Expr {
	made := e
	made.Names, made.A = nil, nil
	for i, part := range e.A {
		isName := i < len(e.Names)
		if isName && part.Kind == api.ELam {
			continue
		}
		if isName {
			made.Names = append(made.Names, e.Names[i])
		}
		made.A = append(made.A, slowLeft(part))
	}
	if e.Kind == api.ELet && len(made.Names) == 0 {
		return made.A[0]
	}
	return made
}

// slowNorm is (5), of one term: names are counted.
func slowNorm(count *int, e api.Expr) api.Expr {
	made := e
	made.A = nil
	lets := []api.Expr{}
	for i, part := range e.A {
		part = slowNorm(count, part)
		argument := e.Kind == api.EApp && i > 0 || e.Kind == api.EPrim && e.Text == "cons"
		if argument && !slices.Contains([]int{api.EInt, api.EBool, api.ENil, api.ESym, api.EVar}, part.Kind) {
			*count++
			name := "%p." + strconv.Itoa(*count)
			lets = append(lets, let(name, part, api.Expr{}))
			part = variable(name)
		}
		made.A = append(made.A, part)
	}
	for len(lets) > 0 {
		last := lets[len(lets)-1]
		last.A[1], lets = made, lets[:len(lets)-1]
		made = last
	}
	return made
}

// slowLift is what Lift must be, by the words of the promise, one by one.
func slowLift(e api.Expr) (p api.Prog) {
	e = slowNamed(slowFunctions(e, false), e, nil)
	extras := slowExtras(slowFunctions(e, true))
	e = slowCalls(extras, e)
	count := 0
	for _, f := range slowFunctions(e, true) {
		body := slowNorm(&count, slowLeft(f.lambda.A[0]))
		p.Sups = append(p.Sups, api.Sup{Name: f.name, Params: slices.Concat(extras[f.name], f.lambda.Names), Body: body})
	}
	p.Main = slowNorm(&count, slowLeft(e))
	return p
}

// checkOrder holds the functions that e names against Needs: they stand in its order.
func checkOrder(t *testing.T, e api.Expr, p api.Prog) {
	t.Helper()
	var want, got []string
	for _, need := range strict.Needs(e) {
		want = append(want, need.Name)
	}
	for _, sup := range p.Sups {
		if slices.Contains(want, sup.Name) {
			got = append(got, sup.Name)
		}
	}
	if !slices.Equal(got, want) {
		t.Fatalf("P902: Lift(%s): functions %q, not %q", core.Text(e), got, want)
	}
}

func checkLifted(t *testing.T, e api.Expr) api.Prog {
	t.Helper()
	got, want := lift.Lift(e), slowLift(e)
	if !alikePrograms(got, want) {
		t.Fatalf("P902: Lift(%s) is %s, not %s", core.Text(e), lift.Text(got), lift.Text(want))
	}
	if !slowRight(got) || !lift.Right(got) {
		t.Fatalf("P903: Lift(%s) is not right: %s", core.Text(e), lift.Text(got))
	}
	return got
}

func TestManyLift(t *testing.T) {
	m, count := newMaker(1), [3]int{}
	for range 6000 {
		m.clear()
		e := m.term(m.Intn(7), nil)
		p := checkLifted(t, e)
		checkOrder(t, e, p)
		count[min(len(p.Sups), 2)]++
		checkLifted(t, norm.Norm(rebased(e)))
	}
	if slices.Min(count[:]) < 400 {
		t.Errorf("with none, one or more functions: %v", count)
	}
}

// rebased is e, where no name begins with %: as of a text, so that norm may give such.
func rebased(e api.Expr) api.Expr {
	other := func(name string) string {
		if strings.HasPrefix(name, "%") {
			return "$" + name
		}
		return name
	}
	made := api.Expr{Kind: e.Kind, Text: e.Text}
	if e.Kind == api.EVar {
		made.Text = other(e.Text)
	}
	for _, name := range e.Names {
		made.Names = append(made.Names, other(name))
	}
	for _, part := range e.A {
		made.A = append(made.A, rebased(part))
	}
	return made
}

// FuzzLift may be given more time by hand: go test -fuzz FuzzLift ./lift
func FuzzLift(f *testing.F) {
	for i := range int64(20) {
		f.Add(i)
	}
	f.Fuzz(func(t *testing.T, seed int64) {
		m := newMaker(seed)
		checkLifted(t, m.term(m.Intn(10), nil))
	})
}
