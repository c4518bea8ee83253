package core_test

import (
	"math/rand"
	"slices"
	"sort"
	"testing"

	"thunk/api"
	"thunk/big"
	"thunk/core"
	"thunk/read"
)

// maker makes right terms; few names, so that many are bound, again within, and free.
type maker struct{ *rand.Rand }

func (m maker) pick(texts ...string) string { return texts[m.Intn(len(texts))] }

func (m maker) name() string {
	return m.pick("x", "y", "z", "x.1", "x.10", "x.2", "!", "-x", "input", "?p.1")
}

// names are one or more, none twice.
func (m maker) names() (l []string) {
	for n := 1 + m.Intn(4); len(l) < n; {
		if name := m.name(); !slices.Contains(l, name) {
			l = append(l, name)
		}
	}
	return l
}

// parts are n terms, each within so many more.
func (m maker) parts(n, most int) (l []api.Expr) {
	for range n {
		l = append(l, m.term(most-1))
	}
	return l
}

func (m maker) atom() api.Expr {
	switch m.Intn(6) {
	case 0:
		return integer(m.pick("0", "-1", "12345678901234567890"))
	case 1:
		return boolean(m.pick("#t", "#f"))
	case 2:
		return none()
	case 3:
		return symbol(m.name())
	}
	return variable(m.name())
}

func (m maker) term(most int) api.Expr {
	if most <= 0 || m.Intn(6) == 0 {
		return m.atom()
	}
	switch m.Intn(5) {
	case 0:
		return api.Expr{Kind: api.ELam, Names: m.names(), A: m.parts(1, most)}
	case 1:
		return app(m.parts(2+m.Intn(3), most)...)
	case 2:
		return cond(m.parts(3, most)...)
	case 3:
		l := m.names()
		return api.Expr{Kind: api.ELet, Names: l, A: m.parts(len(l)+1, most)}
	}
	n := 1 + m.Intn(2)
	return prim(m.pick(primitives()[n]...), m.parts(n, most)...)
}

// stand is a term that stands in another, and the names of those around it.
type stand struct {
	e     *api.Expr
	bound []string
}

// stands are e and all that stand in it, in order.
func stands(all []stand, e *api.Expr, bound []string) []stand {
	all = append(all, stand{e, bound})
	if e.Kind == api.ELam || e.Kind == api.ELet {
		bound = slices.Concat(bound, e.Names)
	}
	for i := range e.A {
		all = stands(all, &e.A[i], bound)
	}
	return all
}

// slowFree is what Free must be.
func slowFree(e api.Expr) (l []string) {
	for _, x := range stands(nil, &e, nil) {
		if name := x.e.Text; x.e.Kind == api.EVar && !slices.Contains(x.bound, name) && !slices.Contains(l, name) {
			l = append(l, name)
		}
	}
	sort.Strings(l)
	return l
}

// slowRight is what Right must be, by the words of the promise, one by one.
func slowRight(e api.Expr) bool {
	for _, x := range stands(nil, &e, nil) {
		texts, names, parts := len(x.e.Text), len(x.e.Names), len(x.e.A)
		twice := false
		for i, name := range x.e.Names {
			twice = twice || name == "" || slices.Contains(x.e.Names[:i], name)
		}
		is := false
		switch x.e.Kind {
		case api.EInt:
			is = big.Right(x.e.Text) && names == 0 && parts == 0
		case api.EBool:
			is = slices.Contains([]string{"#t", "#f"}, x.e.Text) && names == 0 && parts == 0
		case api.ENil:
			is = texts == 0 && names == 0 && parts == 0
		case api.ESym, api.EVar:
			is = texts > 0 && names == 0 && parts == 0
		case api.ELam:
			is = texts == 0 && names > 0 && !twice && parts == 1
		case api.EApp:
			is = texts == 0 && names == 0 && parts > 1
		case api.EIf:
			is = texts == 0 && names == 0 && parts == 3
		case api.ELet:
			is = texts == 0 && names > 0 && !twice && parts-names == 1
		case api.EPrim:
			is = names == 0 && parts > 0 && parts < 3 && slices.Contains(primitives()[parts], x.e.Text)
		}
		if !is {
			return false
		}
	}
	return true
}

// term is the term of a datum whose text is a term's.
func term(t *testing.T, d api.Datum) api.Expr {
	l := d.L
	switch {
	case d.Kind == api.DInt:
		return integer(d.Text)
	case d.Kind == api.DBool:
		return boolean(d.Text)
	case d.Kind == api.DSym:
		return variable(d.Text)
	case len(l) == 0:
		return none()
	case l[0].Text == "quote" && len(l) == 2:
		return symbol(l[1].Text)
	case l[0].Text == "lambda" && len(l) == 3:
		var names []string
		for _, x := range l[1].L {
			names = append(names, x.Text)
		}
		return api.Expr{Kind: api.ELam, Names: names, A: terms(t, l[2])}
	case l[0].Text == "if":
		return cond(terms(t, l[1:]...)...)
	case l[0].Text == "let" && len(l) == 3:
		e := api.Expr{Kind: api.ELet}
		for _, x := range l[1].L {
			if len(x.L) != 2 {
				t.Fatalf("P502: %+v is no name and value", x)
			}
			e.Names, e.A = append(e.Names, x.L[0].Text), append(e.A, term(t, x.L[1]))
		}
		e.A = append(e.A, term(t, l[2]))
		return e
	case slices.Contains(slices.Concat(primitives()[1], primitives()[2]), l[0].Text):
		return prim(l[0].Text, terms(t, l[1:]...)...)
	}
	return app(terms(t, l...)...)
}

func terms(t *testing.T, l ...api.Datum) (all []api.Expr) {
	for _, d := range l {
		all = append(all, term(t, d))
	}
	return all
}

// alike tells whether two terms are one.
func alike(a, b api.Expr) bool {
	return a.Kind == b.Kind && a.Text == b.Text && slices.Equal(a.Names, b.Names) && slices.EqualFunc(a.A, b.A, alike)
}

// checkTerm holds what is answered of a right term against the slow ways.
func checkTerm(t *testing.T, e api.Expr) {
	t.Helper()
	text := core.Text(e)
	if !core.Right(e) {
		t.Fatalf("P501: %s is not right", text)
	}
	if got, want := core.Free(e), slowFree(e); !slices.Equal(got, want) {
		t.Fatalf("P502: Free of %s is %q, not %q", text, got, want)
	}
	if got, want := core.Size(e), len(stands(nil, &e, nil)); got != want {
		t.Fatalf("P502: Size of %s is %d, not %d", text, got, want)
	}
}

// checkText reads the text of a term, as the maker makes them, and holds what that is against it.
func checkText(t *testing.T, e api.Expr) {
	t.Helper()
	text := core.Text(e)
	if len(text) > api.MaxSource {
		return
	}
	l, at, err := read.Read(text)
	if err != api.OK || len(l) != 1 {
		t.Fatalf("P502: Text %s is no datum: %v at %d", text, err, at)
	}
	if got := term(t, l[0]); !alike(got, e) {
		t.Fatalf("P502: Text %s is of %+v, not of %+v", text, got, e)
	}
}

func TestMany(t *testing.T) {
	m := maker{rand.New(rand.NewSource(1))}
	free := 0
	for range 20000 {
		e := m.term(m.Intn(6))
		checkTerm(t, e)
		checkText(t, e)
		if len(slowFree(e)) > 2 {
			free++
		}
	}
	if free < 500 {
		t.Errorf("only %d", free)
	}
}

// spoils are what may be wrong with a term; not all are, with each kind.
func spoils(m maker, e *api.Expr) {
	switch m.Intn(9) {
	case 0:
		e.Kind = m.Intn(13) - 1
	case 1:
		e.Text = m.pick("", " ", "x", "-0", "007", "#t", "#x", "car", "+", "list", "()")
	case 2:
		e.Names = append(slices.Clone(e.Names), m.name())
	case 3:
		e.Names = append(slices.Clone(e.Names), "")
	case 4:
		e.Names = nil
	case 5:
		if len(e.Names) > 0 {
			e.Names = slices.Clone(e.Names)
			e.Names[m.Intn(len(e.Names))] = m.pick("", e.Names[0], "w")
		}
	case 6:
		e.A = append(slices.Clone(e.A), m.atom())
	case 7:
		e.A = e.A[:len(e.A)/2]
	case 8:
		e.Names, e.A = m.names(), append(slices.Clone(e.A), m.atom())
	}
}

// TestManyWrong: one change at one place.
func TestManyWrong(t *testing.T) {
	m := maker{rand.New(rand.NewSource(2))}
	count := [2]int{}
	for range 30000 {
		e := m.term(m.Intn(5))
		all := stands(nil, &e, nil)
		spoils(m, all[m.Intn(len(all))].e)
		want := slowRight(e)
		if got := core.Right(e); got != want {
			t.Fatalf("P501: Right of %+v is %v, not %v", e, got, want)
		}
		if want {
			checkTerm(t, e)
			count[1]++
		}
		count[0]++
	}
	if count[1] < 1000 || count[1] > count[0]/2 {
		t.Errorf("right are %d of %d", count[1], count[0])
	}
}

// FuzzTerm may be given more time by hand: go test -fuzz FuzzTerm ./core
func FuzzTerm(f *testing.F) {
	for i := range int64(20) {
		f.Add(i)
	}
	f.Fuzz(func(t *testing.T, seed int64) {
		m := maker{rand.New(rand.NewSource(seed))}
		e := m.term(m.Intn(8))
		checkTerm(t, e)
		checkText(t, e)
	})
}
