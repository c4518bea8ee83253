package norm_test

import (
	"math/rand"
	"reflect"
	"slices"
	"strconv"
	"strings"
	"testing"

	"thunk/api"
	"thunk/core"
	"thunk/norm"
)

// span is the memory of a list, its spare room too.
type span struct{ from, to uintptr }

// spans are those of all lists in e.
func spans(all []span, e api.Expr) []span {
	for _, v := range []reflect.Value{reflect.ValueOf(e.Names), reflect.ValueOf(e.A)} {
		if v.Cap() > 0 {
			all = append(all, span{v.Pointer(), v.Pointer() + uintptr(v.Cap())*v.Type().Elem().Size()})
		}
	}
	for _, part := range e.A {
		all = spans(all, part)
	}
	return all
}

// overlap tells whether two of these have memory in common.
func overlap(all []span) bool {
	slices.SortFunc(all, func(a, b span) int { return int(int64(a.from) - int64(b.from)) })
	for i := 1; i < len(all); i++ {
		if all[i].from < all[i-1].to {
			return true
		}
	}
	return false
}

// empty tells whether nothing stands in the spare room of any list in e.
func empty(e api.Expr) bool {
	for _, name := range e.Names[len(e.Names):cap(e.Names)] {
		if name != "" {
			return false
		}
	}
	for _, part := range e.A[len(e.A):cap(e.A)] {
		if !reflect.ValueOf(part).IsZero() {
			return false
		}
	}
	return !slices.ContainsFunc(e.A, func(part api.Expr) bool { return !empty(part) })
}

// roomy is e in memory of its own, something in the spare room of each list.
func roomy(e api.Expr) api.Expr {
	e.Names = append(slices.Clone(e.Names), "spare", "")[:len(e.Names)]
	l := make([]api.Expr, 0, len(e.A)+1)
	for _, part := range e.A {
		l = append(l, roomy(part))
	}
	e.A = append(l, app(variable("spare"), app(variable("spare"))))[:len(e.A)]
	return e
}

// dump writes all of e, what stands in spare room too.
func dump(s *strings.Builder, e api.Expr) {
	s.WriteString(strconv.Itoa(e.Kind) + strconv.Quote(e.Text) + "[" + strconv.Itoa(len(e.Names)) + ":")
	for _, name := range e.Names[:cap(e.Names)] {
		s.WriteString(strconv.Quote(name))
	}
	s.WriteString("][" + strconv.Itoa(len(e.A)) + ":")
	for _, part := range e.A[:cap(e.A)] {
		dump(s, part)
	}
	s.WriteString("]")
}

func dumpOf(e api.Expr) string {
	var s strings.Builder
	dump(&s, e)
	return s.String()
}

// TestMemory: what is handed in stays as it is, what stands in its spare room does not count, and an answer is new.
func TestMemory(t *testing.T) {
	m := maker{rand.New(rand.NewSource(2))}
	for range 5000 {
		e := m.term(m.Intn(6))
		want, is := norm.Norm(e), norm.Is(e)
		e = roomy(e)
		before := dumpOf(e)
		got := norm.Norm(e)
		if !alike(got, want) || norm.Is(e) != is {
			t.Fatalf("P2: Norm(%s) is %s, with spare room %s", core.Text(e), core.Text(want), core.Text(got))
		}
		if dumpOf(e) != before {
			t.Fatalf("P2: %s was changed", before)
		}
		if overlap(append(spans(nil, e), spans(nil, got)...)) || !empty(got) {
			t.Fatalf("P2: Norm(%s) shares memory, or has full spare room", core.Text(e))
		}
	}
}

// TestSharedParts: lists that stand at several places of a term are of their own in what is answered.
func TestSharedParts(t *testing.T) {
	inner := app(variable("f"), app(variable("g"), variable("x")))
	parts := []api.Expr{variable("f"), inner, inner}
	e := app(app(parts...), app(parts...), app(parts...))
	names := []string{"x", "y"}
	e.A[0].A = []api.Expr{{Kind: api.ELam, Names: names, A: parts[:1]}, {Kind: api.ELam, Names: names, A: parts[:1]}}
	before := dumpOf(e)
	checkNorm(t, e)
	if got := norm.Norm(e); overlap(spans(nil, got)) || dumpOf(e) != before {
		t.Errorf("P2: Norm(%s) shares memory", core.Text(e))
	}
}

// TestSameAgain: nothing is kept from call to call: each row of names begins with 1.
func TestSameAgain(t *testing.T) {
	all := func() (got []string) {
		m := maker{rand.New(rand.NewSource(3))}
		for range 3000 {
			got = append(got, core.Text(norm.Norm(m.term(m.Intn(6)))))
		}
		return got
	}
	if first := all(); !slices.Equal(first, all()) {
		t.Fatal("P3: not the same again")
	}
}

// wild is any term.
func wild(m maker, most int) api.Expr {
	e := api.Expr{Kind: m.Intn(13) - 1, Text: m.pick("", "", "x", "1", "car", "cons", "cons")}
	for range m.Intn(3) {
		e.Names = append(e.Names, m.pick("", "x", "%.1", "z", "z"))
	}
	if most > 0 {
		for range m.Intn(4) {
			e.A = append(e.A, wild(m, most-1))
		}
	}
	return e
}

// TestWild: whatever is handed in, the calls end, change nothing, and answer the same again.
func TestWild(t *testing.T) {
	m := maker{rand.New(rand.NewSource(4))}
	for range 50000 {
		e := roomy(wild(m, m.Intn(4)))
		before := dumpOf(e)
		got, is := norm.Norm(e), norm.Is(e)
		if !alike(norm.Norm(e), got) || norm.Is(e) != is || dumpOf(e) != before {
			t.Fatalf("P2, P3: %+v", e)
		}
		if overlap(append(spans(nil, e), spans(nil, got)...)) {
			t.Fatalf("P2: Norm(%+v) shares memory", e)
		}
	}
}

const deepest = 2000 // as deep as terms that are handed in may hang on one another

// TestDeep: as deep as terms may be, by what is called, by arguments, by pairs, and by all else.
func TestDeep(t *testing.T) {
	x := variable("x")
	for i, c := range []struct {
		around func(e api.Expr) api.Expr
		names  int // for each depth
	}{
		{func(e api.Expr) api.Expr { return app(e, x) }, 0},
		{func(e api.Expr) api.Expr { return app(x, e) }, 1},
		{func(e api.Expr) api.Expr { return app(x, app(x, x), e, app(x, x)) }, 3},
		{func(e api.Expr) api.Expr { return prim("cons", e, x) }, 1},
		{func(e api.Expr) api.Expr { return prim("cons", x, e) }, 1},
		{func(e api.Expr) api.Expr { return prim("not", e) }, 0},
		{func(e api.Expr) api.Expr { return api.Expr{Kind: api.ELam, Names: []string{"x"}, A: []api.Expr{e}} }, 0},
		{func(e api.Expr) api.Expr { return api.Expr{Kind: api.EIf, A: []api.Expr{x, e, app(x, app(x, x))}} }, 1},
		{func(e api.Expr) api.Expr { return let("x", e, x) }, 0},
		{func(e api.Expr) api.Expr { return let("x", app(x, app(x, x)), e) }, 1},
	} {
		e := app(x, x)
		for range deepest - 2 {
			e = c.around(e)
		}
		got, count := norm.Norm(e), c.names*(deepest-2)
		if core.Size(got) != core.Size(e)+2*count || norm.Is(e) != (count == 0) || !norm.Is(got) {
			t.Errorf("P701: %d: Norm of a deep one", i)
		}
		if !alike(without(got, map[string]api.Expr{}), e) {
			t.Errorf("T3: %d: Norm of a deep one is not the same term", i)
		}
	}
}

// TestWide: the work for many arguments is as long as they are.
func TestWide(t *testing.T) {
	const wide = 100000
	x := variable("x")
	atoms := app(slices.Repeat([]api.Expr{x}, wide+1)...)
	if !norm.Is(atoms) || !alike(norm.Norm(atoms), atoms) {
		t.Error("P702: Norm of a wide one")
	}
	got := norm.Norm(app(slices.Repeat([]api.Expr{app(x, x)}, wide+1)...))
	for i := range wide {
		name := "%." + strconv.Itoa(i+1)
		if got.Kind != api.ELet || !slices.Equal(got.Names, []string{name}) || core.Text(got.A[0]) != "(x x)" {
			t.Fatalf("P701: argument %d of a wide one", i)
		}
		got = got.A[1]
		if i == wide-1 && (len(got.A) != wide+1 || !alike(got.A[wide], variable(name)) || !norm.Is(got)) {
			t.Error("P701: what is within a wide one's lets")
		}
	}
}
