package core_test

import (
	"math/rand"
	"slices"
	"strconv"
	"strings"
	"testing"

	"thunk/api"
	"thunk/core"
)

// roomy is e in memory of its own, something in the spare room of each list.
func roomy(e api.Expr) api.Expr {
	e.Names = append(slices.Clone(e.Names), "spare", "")[:len(e.Names)]
	l := make([]api.Expr, 0, len(e.A)+1)
	for _, part := range e.A {
		l = append(l, roomy(part))
	}
	e.A = append(l, variable("spare"))[:len(e.A)]
	return e
}

// dump writes all of e, what stands in spare room too.
func dump(s *strings.Builder, e api.Expr) {
	s.WriteString(strconv.Itoa(e.Kind) + strconv.Quote(e.Text) + "[" + strconv.Itoa(len(e.Names)) + ":")
	for _, name := range e.Names[:cap(e.Names)] {
		s.WriteString(strconv.Quote(name))
	}
	s.WriteString("][" + strconv.Itoa(len(e.A)) + ":")
	for _, part := range e.A[:cap(e.A)] {
		dump(s, part)
	}
	s.WriteString("]")
}

func dumpOf(e api.Expr) string {
	var s strings.Builder
	dump(&s, e)
	return s.String()
}

// answers are all that is answered of e.
func answers(e api.Expr) string {
	l := core.Free(e)
	return strconv.Quote(core.Text(e)) + strings.Join(l, ",") + strconv.Itoa(len(l)) + "," + strconv.Itoa(core.Size(e)) + strconv.FormatBool(core.Right(e)) + strconv.Itoa(core.Arity(e.Text))
}

// TestHandedInStays: what is handed in is not changed, and what stands in its spare room does not count.
func TestHandedInStays(t *testing.T) {
	m := maker{rand.New(rand.NewSource(3))}
	for range 3000 {
		e := m.term(m.Intn(6))
		want := answers(e)
		e = roomy(e)
		before := dumpOf(e)
		if got := answers(e); got != want {
			t.Fatalf("P2: %s, with spare room %s", want, got)
		}
		if dumpOf(e) != before {
			t.Fatalf("P2: %s was changed: %s", before, dumpOf(e))
		}
	}
}

// TestSameAgain: nothing is kept from call to call.
func TestSameAgain(t *testing.T) {
	all := func() (got []string) {
		m := maker{rand.New(rand.NewSource(4))}
		for range 3000 {
			got = append(got, answers(m.term(m.Intn(6))))
		}
		return got
	}
	first := all()
	for i, x := range all() {
		if x != first[i] {
			t.Fatalf("P3: term %d: %s, then %s", i, first[i], x)
		}
	}
}

// wild is any term.
func wild(m maker, most int) api.Expr {
	e := api.Expr{Kind: m.Intn(13) - 1, Text: m.pick("", "", "", "x", "1", "#t", "car", "+")}
	for range m.Intn(4) {
		e.Names = append(e.Names, m.pick("", "x", "y", "z", "z"))
	}
	if most > 0 {
		for range m.Intn(5) {
			e.A = append(e.A, wild(m, most-1))
		}
	}
	return e
}

// TestWild: whatever is handed in: Right answers what it must, the others end, and change nothing.
func TestWild(t *testing.T) {
	m := maker{rand.New(rand.NewSource(5))}
	for range 100000 {
		e := roomy(wild(m, m.Intn(4)))
		before := dumpOf(e)
		if got, want := core.Right(e), slowRight(e); got != want {
			t.Fatalf("P501: Right of %+v is %v, not %v", e, got, want)
		}
		if answers(e) != answers(e) || dumpOf(e) != before {
			t.Fatalf("P2, P3: %+v", e)
		}
	}
}

const deepest = 2000 // as deep as terms that are handed in may hang on one another

// TestDeep: as deep as terms may be, with long names at each depth, in each place where a term may stand.
func TestDeep(t *testing.T) {
	x, y, long := variable("x"), variable("y"), strings.Repeat("n", 1000)
	for i, c := range []struct {
		around        func(e api.Expr) api.Expr
		ahead, behind string
		free          string
		size          int
	}{
		{func(e api.Expr) api.Expr { return lambda("x "+long, e) }, "(lambda (x " + long + ") ", ")", "", 1},
		{func(e api.Expr) api.Expr { return app(e, x) }, "(", " x)", "x", 2},
		{func(e api.Expr) api.Expr { return app(variable(long), e) }, "(" + long + " ", ")", long + " x", 2},
		{func(e api.Expr) api.Expr { return cond(e, y, y) }, "(if ", " y y)", "x y", 3},
		{func(e api.Expr) api.Expr { return cond(y, e, y) }, "(if y ", " y)", "x y", 3},
		{func(e api.Expr) api.Expr { return cond(y, y, e) }, "(if y y ", ")", "x y", 3},
		{func(e api.Expr) api.Expr { return let("y "+long, y, e, y) }, "(let ((y y) (" + long + " ", ")) y)", "x", 3},
		{func(e api.Expr) api.Expr { return let("x", y, e) }, "(let ((x y)) ", ")", "y", 2},
		{func(e api.Expr) api.Expr { return prim("not", e) }, "(not ", ")", "x", 1},
		{func(e api.Expr) api.Expr { return prim("quotient", e, y) }, "(quotient ", " y)", "x y", 2},
		{func(e api.Expr) api.Expr { return prim("quotient", y, e) }, "(quotient y ", ")", "x y", 2},
	} {
		e, wrong := x, variable("")
		for range deepest - 1 {
			e, wrong = c.around(e), c.around(wrong)
		}
		if core.Text(e) != strings.Repeat(c.ahead, deepest-1)+"x"+strings.Repeat(c.behind, deepest-1) {
			t.Errorf("P502: %d: Text of a deep one", i)
		}
		if got := core.Free(e); !slices.Equal(got, strings.Fields(c.free)) {
			t.Errorf("P502: %d: Free of a deep one is %q", i, got)
		}
		if got := core.Size(e); got != (deepest-1)*c.size+1 {
			t.Errorf("P502: %d: Size of a deep one is %d", i, got)
		}
		if !core.Right(e) || core.Right(wrong) {
			t.Errorf("P501: %d: Right of a deep one", i)
		}
	}
}

// TestWide: the work for many names and parts is as long as they are.
func TestWide(t *testing.T) {
	const wide = 200000
	var names, values []string
	var parts []api.Expr
	for i := range wide {
		names = append(names, "n"+strconv.Itoa(i))
		parts = append(parts, variable("n"+strconv.Itoa(wide-1-i)))
		values = append(values, "("+names[i]+" "+parts[i].Text+")")
	}
	sorted := slices.Sorted(slices.Values(names))
	all := app(parts...)
	bound := api.Expr{Kind: api.ELet, Names: names, A: append(parts, all)}
	function := api.Expr{Kind: api.ELam, Names: names[1:], A: []api.Expr{all}}
	for _, c := range []struct {
		e    api.Expr
		text string
		free []string
		size int
	}{
		{all, core.Text(all), sorted, wide + 1},
		{bound, "(let (" + strings.Join(values, " ") + ") " + core.Text(all) + ")", nil, 2*wide + 2},
		{function, "(lambda (" + strings.Join(names[1:], " ") + ") " + core.Text(all) + ")", names[:1], wide + 2},
	} {
		if !core.Right(c.e) || core.Text(c.e) != c.text || !slices.Equal(core.Free(c.e), c.free) || core.Size(c.e) != c.size {
			t.Errorf("P501, P502: a wide one of size %d", c.size)
		}
	}
	function.Names = append(slices.Clone(names), names[wide-1])
	if core.Right(function) {
		t.Error("P501: Right of a wide one with a name twice")
	}
	for range deepest - 2 {
		bound = let("v", variable("v"), bound)
	}
	if len(core.Free(bound)) > 0 {
		t.Error("P502: Free of a wide one deep within")
	}
}
