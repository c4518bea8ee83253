package lift_test

import (
	"slices"
	"testing"

	"thunk/api"
	"thunk/core"
	"thunk/lift"
	"thunk/norm"
)

// slowRight is what Right must be, by the words of the promise, one by one.
func slowRight(p api.Prog) bool {
	var sups []string
	for _, sup := range p.Sups {
		sups = append(sups, sup.Name)
	}
	known := append([]string{"input"}, sups...)
	is := slowApart(sups) && slowTerm(p.Main, known)
	for _, sup := range p.Sups {
		is = is && len(sup.Params) > 0 && slowApart(sup.Params) && slowTerm(sup.Body, slices.Concat(known, sup.Params))
		for _, param := range sup.Params {
			is = is && !slices.Contains(sups, param)
		}
	}
	return is
}

func slowApart(l []string) bool {
	for i, name := range l {
		if name == "" || slices.Contains(l[:i], name) {
			return false
		}
	}
	return true
}

func slowTerm(e api.Expr, known []string) bool {
	if !core.Right(e) {
		return false
	}
	for _, name := range core.Free(e) {
		if !slices.Contains(known, name) {
			return false
		}
	}
	return norm.Is(e) && len(slowFunctions(e, false))+len(slowFunctions(e, true)) == 0
}

// inner are all terms in e.
func inner(all []*api.Expr, e *api.Expr) []*api.Expr {
	all = append(all, e)
	for i := range e.A {
		all = inner(all, &e.A[i])
	}
	return all
}

// named is a name of p's, or none of its.
func (m maker) named(p api.Prog) string {
	l := []string{"", "z", "input"}
	for _, sup := range p.Sups {
		l = append(append(l, sup.Name), sup.Params...)
	}
	return m.pick(l...)
}

// spoil changes p at one place, for better or for worse.
func (m maker) spoil(p *api.Prog) {
	e := &p.Main
	if len(p.Sups) > 0 && m.Intn(4) > 0 {
		sup := &p.Sups[m.Intn(len(p.Sups))]
		e = &sup.Body
		switch m.Intn(10) {
		case 0:
			sup.Name = m.named(*p)
		case 1, 2:
			sup.Params = append(sup.Params, m.named(*p))
		case 3:
			sup.Params = sup.Params[min(1, len(sup.Params)):]
		case 4:
			p.Sups = p.Sups[1:]
			return
		case 5:
			p.Sups = append(p.Sups, *sup)
			return
		}
	}
	all := inner(nil, e)
	e = all[m.Intn(len(all))]
	switch m.Intn(6) {
	case 0:
		e.Text = m.named(*p)
	case 1:
		e.Kind = m.Intn(13) - 1
	case 2:
		*e = lambda(*e, "z")
	case 3:
		*e = prim("car", *e)
	case 4:
		*e = let("z", integer("1"), *e)
	case 5:
		e.A = append(e.A, variable(m.named(*p)))
	}
}

// TestManyRight: what is right, with a change or two.
func TestManyRight(t *testing.T) {
	m, count := newMaker(2), [2]int{}
	for range 12000 {
		m.clear()
		p := lift.Lift(m.term(1+m.Intn(6), nil))
		for range 1 + m.Intn(2) {
			m.spoil(&p)
		}
		want := slowRight(p)
		if lift.Right(p) != want {
			t.Fatalf("P901: Right of %+v is not %v", p, want)
		}
		if want {
			count[1]++
		} else {
			count[0]++
		}
	}
	if slices.Min(count[:]) < 2000 {
		t.Errorf("not right, right: %v", count)
	}
}
