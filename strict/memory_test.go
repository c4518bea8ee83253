package strict_test

import (
	"reflect"
	"slices"
	"strconv"
	"strings"
	"testing"

	"thunk/api"
	"thunk/core"
	"thunk/strict"
)

// span is the memory of a list, its spare room too.
type span struct{ from, to uintptr }

// spans are those of all lists in e.
func spans(all []span, e api.Expr) []span {
	for _, v := range []reflect.Value{reflect.ValueOf(e.Names), reflect.ValueOf(e.A)} {
		if v.Cap() > 0 {
			all = append(all, span{v.Pointer(), v.Pointer() + uintptr(v.Cap())*v.Type().Elem().Size()})
		}
	}
	for _, part := range e.A {
		all = spans(all, part)
	}
	return all
}

// overlap tells whether two of these have memory in common.
func overlap(all []span) bool {
	slices.SortFunc(all, func(a, b span) int { return int(int64(a.from) - int64(b.from)) })
	for i := 1; i < len(all); i++ {
		if all[i].from < all[i-1].to {
			return true
		}
	}
	return false
}

// empty tells whether nothing stands in the spare room of any list in e.
func empty(e api.Expr) bool {
	for _, name := range e.Names[len(e.Names):cap(e.Names)] {
		if name != "" {
			return false
		}
	}
	for _, part := range e.A[len(e.A):cap(e.A)] {
		if !reflect.ValueOf(part).IsZero() {
			return false
		}
	}
	return !slices.ContainsFunc(e.A, func(part api.Expr) bool { return !empty(part) })
}

// roomy is e in memory of its own, something in the spare room of each list.
func roomy(e api.Expr) api.Expr {
	e.Names = append(slices.Clone(e.Names), "spare", "")[:len(e.Names)]
	l := make([]api.Expr, 0, len(e.A)+1)
	for _, part := range e.A {
		l = append(l, roomy(part))
	}
	e.A = append(l, app(variable("spare"), app(variable("spare"))))[:len(e.A)]
	return e
}

// dump writes all of e, what stands in spare room too.
func dump(s *strings.Builder, e api.Expr) {
	s.WriteString(strconv.Itoa(e.Kind) + strconv.Quote(e.Text) + "[" + strconv.Itoa(len(e.Names)) + ":")
	for _, name := range e.Names[:cap(e.Names)] {
		s.WriteString(strconv.Quote(name))
	}
	s.WriteString("][" + strconv.Itoa(len(e.A)) + ":")
	for _, part := range e.A[:cap(e.A)] {
		dump(s, part)
	}
	s.WriteString("]")
}

func dumpOf(e api.Expr) string {
	var s strings.Builder
	dump(&s, e)
	return s.String()
}

// roomyNeeds is l in memory of its own, something in the spare room of each list.
func roomyNeeds(l []strict.Need) (all []strict.Need) {
	for _, need := range l {
		need.Of = append(slices.Clone(need.Of), true, true)[:len(need.Of)]
		all = append(all, need)
	}
	return append(all, strict.Need{Name: "x", Of: []bool{true}})[:len(all)]
}

// dumpNeeds writes all of l, what stands in spare room too.
func dumpNeeds(l []strict.Need) string {
	s := strconv.Itoa(len(l))
	for _, need := range l[:cap(l)] {
		s += strconv.Quote(need.Name) + strconv.Itoa(len(need.Of)) + needsText([]strict.Need{{Of: need.Of[:cap(need.Of)]}})
	}
	return s
}

// checkNew tells whether what is answered is new memory, its spare room empty.
func checkNew(t *testing.T, e api.Expr, l []strict.Need, names []string, needs []strict.Need) {
	t.Helper()
	all := append(listSpans(spans(nil, e), l), spans(nil, api.Expr{Names: names})...)
	if overlap(listSpans(all, needs)) {
		t.Fatalf("P2: of %s: shares memory", core.Text(e))
	}
	if !empty(api.Expr{Names: names}) {
		t.Fatalf("P2: Demands(%s): full spare room", core.Text(e))
	}
	for _, need := range needs[len(needs):cap(needs)] {
		if !reflect.ValueOf(need).IsZero() {
			t.Fatalf("P2: Needs(%s): full spare room", core.Text(e))
		}
	}
	for _, need := range needs {
		if slices.Contains(need.Of[len(need.Of):cap(need.Of)], true) {
			t.Fatalf("P2: Needs(%s): full spare room", core.Text(e))
		}
	}
}

// listSpans are those of l, and of the lists in it.
func listSpans(all []span, l []strict.Need) []span {
	if v := reflect.ValueOf(l); v.Cap() > 0 {
		all = append(all, span{v.Pointer(), v.Pointer() + uintptr(v.Cap())*v.Type().Elem().Size()})
	}
	for _, need := range l {
		if v := reflect.ValueOf(need.Of); v.Cap() > 0 {
			all = append(all, span{v.Pointer(), v.Pointer() + uintptr(v.Cap())})
		}
	}
	return all
}

// TestMemory: what is handed in stays as it is, what stands in its spare room does not count, and an answer is new.
func TestMemory(t *testing.T) {
	for i := range 10000 {
		m := newMaker(int64(i), i%2 == 0)
		e, l := m.term(m.Intn(6)), m.known()
		wantNames, wantAll := strict.Demands(e, l)
		wantNeeds := needsText(strict.Needs(e))
		e, l = roomy(e), roomyNeeds(l)
		before := dumpOf(e) + dumpNeeds(l)
		names, all := strict.Demands(e, l)
		needs := strict.Needs(e)
		if !slices.Equal(names, wantNames) || all != wantAll || needsText(needs) != wantNeeds {
			t.Fatalf("P2: of %s: with spare room it is another answer", core.Text(e))
		}
		if dumpOf(e)+dumpNeeds(l) != before {
			t.Fatalf("P2: %s was changed", before)
		}
		checkNew(t, e, l, names, needs)
	}
}

// TestSharedLists: lists that stand at several places are gone through as often as they stand.
func TestSharedLists(t *testing.T) {
	x := variable("x")
	params, body := []string{"x", "y"}, []api.Expr{app(variable("f"), x, x)}
	lambda := api.Expr{Kind: api.ELam, Names: params, A: body}
	parts := []api.Expr{lambda, lambda, body[0]}
	e := api.Expr{Kind: api.ELet, Names: []string{"f", "g"}, A: parts}
	before := dumpOf(e)
	needs := strict.Needs(e)
	if needsText(needs) != "f:10 g:10" || dumpOf(e) != before {
		t.Errorf("P2, P802: Needs(%s) is %s", core.Text(e), needsText(needs))
	}
	of := []bool{true, false}
	l := []strict.Need{{Name: "f", Of: of}, {Name: "g", Of: of}}
	names, _ := strict.Demands(app(variable("f"), app(variable("g"), x, x), x), l)
	if !slices.Equal(names, []string{"f", "g", "x"}) {
		t.Errorf("P2, P801: Demands is %q", names)
	}
	checkNew(t, api.Expr{}, nil, names, needs)
}

// TestOwn: an answer is nobody else's: who changes it changes no other one.
func TestOwn(t *testing.T) {
	e := term(t, "(let ((f (lambda (x y) x)) (g (lambda (z) z))) (+ x (+ y z)))")
	l := strict.Needs(e)
	l[0].Of[1], l[0].Name = true, "h"
	names, _ := strict.Demands(e, l)
	names[0] = "w"
	if got := needsText(strict.Needs(e)) + " " + demandsText(t, e, nil); got != "f:10 g:1 x y z" {
		t.Errorf("P2, P7: %s", got)
	}
}

// TestSameAgain: nothing is kept from call to call.
func TestSameAgain(t *testing.T) {
	all := func() (got []string) {
		m := newMaker(5, true)
		for range 3000 {
			m.clear()
			e := m.term(m.Intn(7))
			got = append(got, needsText(strict.Needs(e)), demandsText(t, e, m.known()))
		}
		return got
	}
	if first := all(); !slices.Equal(first, all()) {
		t.Fatal("P3: not the same again")
	}
}

// wild is any term.
func wild(m maker, most int) api.Expr {
	e := api.Expr{Kind: m.Intn(13) - 1, Text: m.pick("", "", "x", "1", "car", "cons", "error", "f", "f")}
	for range m.Intn(3) {
		e.Names = append(e.Names, m.pick("", "x", "f", "z", "z"))
	}
	if most > 0 {
		for range m.Intn(4) {
			e.A = append(e.A, wild(m, most-1))
		}
	}
	return e
}

// wildNeeds is any needs, one name twice or empty, too.
func wildNeeds(m maker) (l []strict.Need) {
	for range m.Intn(5) {
		l = append(l, strict.Need{Name: m.pick("", "x", "f", "f", "z"), Of: m.bools()[m.Intn(2):]})
	}
	return l
}

// TestWild: whatever is handed in, the calls end, change nothing, and answer the same again.
func TestWild(t *testing.T) {
	m := newMaker(6, false)
	for range 50000 {
		e, l := roomy(wild(m, m.Intn(5))), roomyNeeds(wildNeeds(m))
		before := dumpOf(e) + dumpNeeds(l)
		names, all := strict.Demands(e, l)
		needs := strict.Needs(e)
		again, allAgain := strict.Demands(e, l)
		if !slices.Equal(names, again) || all != allAgain || needsText(needs) != needsText(strict.Needs(e)) || dumpOf(e)+dumpNeeds(l) != before {
			t.Fatalf("P2, P3: %+v, %+v", e, l)
		}
		checkNew(t, e, l, names, needs)
	}
}
