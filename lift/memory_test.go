package lift_test

import (
	"reflect"
	"slices"
	"strconv"
	"strings"
	"testing"

	"thunk/api"
	"thunk/core"
	"thunk/lift"
)

// span is the memory of a list, its spare room too.
type span struct{ from, to uintptr }

func spanOf(all []span, list any) []span {
	if v := reflect.ValueOf(list); v.Cap() > 0 {
		all = append(all, span{v.Pointer(), v.Pointer() + uintptr(v.Cap())*v.Type().Elem().Size()})
	}
	return all
}

// spans are those of all lists in e.
func spans(all []span, e api.Expr) []span {
	all = spanOf(spanOf(all, e.Names), e.A)
	for _, part := range e.A {
		all = spans(all, part)
	}
	return all
}

// programSpans are those of all lists in p.
func programSpans(all []span, p api.Prog) []span {
	all = spans(spanOf(all, p.Sups), p.Main)
	for _, sup := range p.Sups {
		all = spans(spanOf(all, sup.Params), sup.Body)
	}
	return all
}

// overlap tells whether two of these have memory in common.
func overlap(all []span) bool {
	slices.SortFunc(all, func(a, b span) int { return int(int64(a.from) - int64(b.from)) })
	for i := 1; i < len(all); i++ {
		if all[i].from < all[i-1].to {
			return true
		}
	}
	return false
}

// zero tells whether nothing stands in the spare room of a list.
func zero[T any](list []T) bool {
	return !slices.ContainsFunc(list[len(list):cap(list)], func(x T) bool { return !reflect.ValueOf(x).IsZero() })
}

// empty tells whether nothing stands in the spare room of any list in e.
func empty(e api.Expr) bool {
	return zero(e.Names) && zero(e.A) && !slices.ContainsFunc(e.A, func(part api.Expr) bool { return !empty(part) })
}

// emptyProgram tells whether nothing stands in the spare room of any list in p.
func emptyProgram(p api.Prog) bool {
	full := func(sup api.Sup) bool { return !zero(sup.Params) || !empty(sup.Body) }
	return zero(p.Sups) && empty(p.Main) && !slices.ContainsFunc(p.Sups, full)
}

// roomy is e in memory of its own, something in the spare room of each list.
func roomy(e api.Expr) api.Expr {
	e.Names = append(slices.Clone(e.Names), "spare", "")[:len(e.Names)]
	l := make([]api.Expr, 0, len(e.A)+1)
	for _, part := range e.A {
		l = append(l, roomy(part))
	}
	e.A = append(l, app(variable("spare"), lambda(variable("x"), "spare")))[:len(e.A)]
	return e
}

// roomyProgram is p in memory of its own, something in the spare room of each list.
func roomyProgram(p api.Prog) api.Prog {
	var l []api.Sup
	for _, sup := range p.Sups {
		sup.Params = append(slices.Clone(sup.Params), "spare", "")[:len(sup.Params)]
		sup.Body = roomy(sup.Body)
		l = append(l, sup)
	}
	return api.Prog{Sups: append(l, api.Sup{Name: "spare"})[:len(l)], Main: roomy(p.Main)}
}

// dump writes all of e, what stands in spare room too.
func dump(s *strings.Builder, e api.Expr) {
	s.WriteString(strconv.Itoa(e.Kind) + strconv.Quote(e.Text))
	dumpNames(s, e.Names)
	s.WriteString("[" + strconv.Itoa(len(e.A)) + ":")
	for _, part := range e.A[:cap(e.A)] {
		dump(s, part)
	}
	s.WriteString("]")
}

func dumpNames(s *strings.Builder, names []string) {
	s.WriteString("[" + strconv.Itoa(len(names)) + ":")
	for _, name := range names[:cap(names)] {
		s.WriteString(strconv.Quote(name))
	}
	s.WriteString("]")
}

func dumpOf(e api.Expr) string {
	var s strings.Builder
	dump(&s, e)
	return s.String()
}

func dumpProgram(p api.Prog) string {
	var s strings.Builder
	s.WriteString(strconv.Itoa(len(p.Sups)))
	for _, sup := range p.Sups[:cap(p.Sups)] {
		s.WriteString(strconv.Quote(sup.Name))
		dumpNames(&s, sup.Params)
		dump(&s, sup.Body)
	}
	dump(&s, p.Main)
	return s.String()
}

// checkMemory holds that what is handed in stays as it is, what stands in its spare room does not count, and an answer is new.
func checkMemory(t *testing.T, e api.Expr) api.Prog {
	t.Helper()
	want := lift.Lift(e)
	e = roomy(e)
	before := dumpOf(e)
	p := lift.Lift(e)
	if !alikePrograms(p, want) {
		t.Fatalf("P2: Lift(%s) is %s, with spare room %s", core.Text(e), lift.Text(want), lift.Text(p))
	}
	if overlap(programSpans(spans(nil, e), p)) || !emptyProgram(p) {
		t.Fatalf("P2: Lift(%s) shares memory, or has full spare room", core.Text(e))
	}
	text, is := lift.Text(p), lift.Right(p)
	p = roomyProgram(p)
	beforeProgram := dumpProgram(p)
	if lift.Text(p) != text || lift.Right(p) != is {
		t.Fatalf("P2: of %s: with spare room it is another answer", text)
	}
	if dumpOf(e) != before || dumpProgram(p) != beforeProgram {
		t.Fatalf("P2: %s was changed, or %s", before, beforeProgram)
	}
	return p
}

func TestMemory(t *testing.T) {
	m := newMaker(4)
	for range 4000 {
		m.clear()
		if e := m.term(m.Intn(7), nil); !lift.Right(checkMemory(t, e)) {
			t.Fatalf("P903: Lift(%s) is not right", core.Text(e))
		}
	}
}

// TestSharedParts: lists that stand at several places of a term are of their own in what is answered.
func TestSharedParts(t *testing.T) {
	inner := app(variable("input"), app(variable("f"), variable("x")))
	parts := []api.Expr{variable("f"), inner, inner}
	e := app(app(parts...), app(parts...), app(parts...))
	e = let("x", integer("1"), let("f", lambda(variable("x"), "y"), e))
	checkMemory(t, e)
	checkLifted(t, e)
	before := dumpOf(e)
	if p := lift.Lift(e); overlap(programSpans(nil, p)) || dumpOf(e) != before {
		t.Errorf("P2: Lift(%s) shares memory", core.Text(e))
	}
}

// TestOwn: an answer is nobody else's: who changes it changes no other one.
func TestOwn(t *testing.T) {
	s := "(lambda (x) (let ((f (lambda (y) (+ x y)))) (cons f f)))"
	e := term(t, s)
	want := lift.Text(lift.Lift(e))
	p := lift.Lift(e)
	for _, sup := range p.Sups {
		for i := range sup.Params {
			sup.Params[i] = "spoilt"
		}
		for _, part := range inner(nil, &sup.Body) {
			part.Text = "spoilt"
			for i := range part.Names {
				part.Names[i] = "spoilt"
			}
		}
	}
	if got := lift.Text(lift.Lift(e)); got != want || core.Text(e) != s {
		t.Errorf("P2, P7: Lift(%s) is %s", core.Text(e), got)
	}
}

// TestSameAgain: nothing is kept from call to call: each row of names begins with 1.
func TestSameAgain(t *testing.T) {
	all := func() (got []string) {
		m := newMaker(5)
		for range 3000 {
			m.clear()
			got = append(got, lift.Text(lift.Lift(m.term(m.Intn(7), nil))))
		}
		return got
	}
	if first := all(); !slices.Equal(first, all()) {
		t.Fatal("P3: not the same again")
	}
}

// wild is any term.
func wild(m maker, most int) api.Expr {
	kinds := []int{api.ELam, api.ELet, api.EVar, api.EApp, api.EPrim, m.Intn(13) - 1}
	e := api.Expr{Kind: kinds[m.Intn(len(kinds))], Text: m.pick("", "x", "f", "%l.1", "1", "cons", "input")}
	for range m.Intn(4) {
		e.Names = append(e.Names, m.pick("", "x", "f", "f", "%.1", "%l.1", "%p.1", "%p", "input"))
	}
	if most > 0 {
		for range m.Intn(5) {
			e.A = append(e.A, wild(m, most-1))
		}
	}
	return e
}

// TestWild: whatever is handed in, the calls end, change nothing, and answer the same again.
func TestWild(t *testing.T) {
	m := newMaker(6)
	for range 10000 {
		e := wild(m, m.Intn(5))
		checkMemory(t, e)
		p := api.Prog{Main: wild(m, m.Intn(3))}
		for range m.Intn(4) {
			p.Sups = append(p.Sups, api.Sup{Name: m.pick("", "f", "g", "input"), Params: wild(m, 0).Names, Body: wild(m, m.Intn(3))})
		}
		p = roomyProgram(p)
		before := dumpProgram(p)
		if text := lift.Text(p); lift.Right(p) != slowRight(p) || lift.Text(p) != text || dumpProgram(p) != before {
			t.Fatalf("P1, P2, P3: of %s", text)
		}
	}
}
