package norm_test

import (
	"math/rand"
	"slices"
	"strconv"
	"strings"
	"testing"

	"thunk/api"
	"thunk/core"
	"thunk/norm"
)

// maker makes right terms; few names.
type maker struct{ *rand.Rand }

func (m maker) pick(texts ...string) string { return texts[m.Intn(len(texts))] }

func (m maker) name() string { return m.pick("x", "y", "z", "x.1", "input", "%p.1", "cons") }

// names are one or more, none twice.
func (m maker) names() (l []string) {
	for n := 1 + m.Intn(3); len(l) < n; {
		if name := m.name(); !slices.Contains(l, name) {
			l = append(l, name)
		}
	}
	return l
}

// parts are n terms, each within so many more.
func (m maker) parts(n, most int) (l []api.Expr) {
	for range n {
		l = append(l, m.term(most-1))
	}
	return l
}

func (m maker) atom() api.Expr {
	switch m.Intn(6) {
	case 0:
		return integer(m.pick("0", "-1", "12345678901234567890"))
	case 1:
		return api.Expr{Kind: api.EBool, Text: m.pick("#t", "#f")}
	case 2:
		return api.Expr{Kind: api.ENil}
	case 3:
		return api.Expr{Kind: api.ESym, Text: m.name()}
	}
	return variable(m.name())
}

func (m maker) term(most int) api.Expr {
	if most <= 0 || m.Intn(6) == 0 {
		return m.atom()
	}
	switch m.Intn(7) {
	case 0:
		return api.Expr{Kind: api.ELam, Names: m.names(), A: m.parts(1, most)}
	case 1, 2:
		return app(m.parts(2+m.Intn(3), most)...)
	case 3:
		return api.Expr{Kind: api.EIf, A: m.parts(3, most)}
	case 4:
		l := m.names()
		return api.Expr{Kind: api.ELet, Names: l, A: m.parts(len(l)+1, most)}
	case 5:
		return prim("cons", m.parts(2, most)...)
	}
	if m.Intn(2) == 0 {
		return prim(m.pick("+", "seq", "eq?"), m.parts(2, most)...)
	}
	return prim(m.pick("car", "not"), m.parts(1, most)...)
}

// alike tells whether two terms are one.
func alike(a, b api.Expr) bool {
	return a.Kind == b.Kind && a.Text == b.Text && slices.Equal(a.Names, b.Names) && slices.EqualFunc(a.A, b.A, alike)
}

// atoms are the kinds of W4.
func atoms() []int { return []int{api.EInt, api.EBool, api.ENil, api.ESym, api.EVar} }

// path is where a term stands in another: which part, of this which part, ..
type path []int

// named are the paths of all that must get names in e, which stands at p.
func named(all []path, e api.Expr, p path) []path {
	for i, part := range e.A {
		at := append(slices.Clone(p), i)
		all = named(all, part, at)
		argument := e.Kind == api.EApp && i > 0 || e.Kind == api.EPrim && e.Text == "cons"
		if argument && !slices.Contains(atoms(), part.Kind) {
			all = append(all, at)
		}
	}
	return all
}

// ahead orders paths as the terms get their names: one within another ahead of it, else from left to right.
func ahead(a, b path) int {
	for i := range min(len(a), len(b)) {
		if a[i] != b[i] {
			return a[i] - b[i]
		}
	}
	return len(b) - len(a)
}

// slowNorm is what Norm must be: all places are found and put in order; then the term is made from its outside, each name asked by its place.
func slowNorm(e api.Expr) api.Expr {
	all := named(nil, e, nil)
	slices.SortFunc(all, ahead)
	return slowAt(all, e, nil)
}

func slowAt(all []path, e api.Expr, p path) api.Expr {
	made := e
	made.A = nil
	lets := []api.Expr{}
	for i, part := range e.A {
		at := append(slices.Clone(p), i)
		x := slowAt(all, part, at)
		n := slices.IndexFunc(all, func(q path) bool { return slices.Equal(at, q) })
		if n >= 0 {
			name := "%." + strconv.Itoa(n+1)
			lets = append(lets, let(name, x, api.Expr{}))
			x = variable(name)
		}
		made.A = append(made.A, x)
	}
	for len(lets) > 0 {
		last := lets[len(lets)-1]
		last.A[1], lets = made, lets[:len(lets)-1]
		made = last
	}
	return made
}

// without puts back what has a name: Norm, backwards.
func without(e api.Expr, known map[string]api.Expr) api.Expr {
	if e.Kind == api.ELet && strings.HasPrefix(e.Names[0], "%.") {
		known[e.Names[0]] = without(e.A[0], known)
		return without(e.A[1], known)
	}
	if x, is := known[e.Text]; is && e.Kind == api.EVar {
		return x
	}
	parts := e.A
	e.A = nil
	for _, part := range parts {
		e.A = append(e.A, without(part, known))
	}
	return e
}

// checkNorm holds all that the promises say of a right term whose names are a text's.
func checkNorm(t *testing.T, e api.Expr) {
	t.Helper()
	text, got, want := core.Text(e), norm.Norm(e), slowNorm(e)
	if !alike(got, want) {
		t.Fatalf("P701: Norm(%s) is %s, not %s", text, core.Text(got), core.Text(want))
	}
	count := len(named(nil, e, nil))
	if norm.Is(e) != (count == 0) {
		t.Fatalf("P701: Is(%s) is %v", text, norm.Is(e))
	}
	if !norm.Is(got) || !alike(norm.Norm(got), got) {
		t.Fatalf("P702: Norm(%s) is not normed: %s", text, core.Text(got))
	}
	if !alike(without(got, map[string]api.Expr{}), e) {
		t.Fatalf("T3: Norm(%s) is %s: not the same term", text, core.Text(got))
	}
	if !core.Right(got) || core.Size(got) != core.Size(e)+2*count || !slices.Equal(core.Free(got), core.Free(e)) {
		t.Fatalf("P701: Norm(%s) is %s", text, core.Text(got))
	}
}

func TestMany(t *testing.T) {
	m := maker{rand.New(rand.NewSource(1))}
	count := [3]int{}
	for range 30000 {
		e := m.term(m.Intn(6))
		checkNorm(t, e)
		count[min(len(named(nil, e, nil)), 2)]++
	}
	if slices.Min(count[:]) < 1000 {
		t.Errorf("with none, one or more names: %v", count)
	}
}

// FuzzNorm may be given more time by hand: go test -fuzz FuzzNorm ./norm
func FuzzNorm(f *testing.F) {
	for i := range int64(20) {
		f.Add(i)
	}
	f.Fuzz(func(t *testing.T, seed int64) {
		m := maker{rand.New(rand.NewSource(seed))}
		checkNorm(t, m.term(m.Intn(8)))
	})
}
