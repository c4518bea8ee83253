package strict_test

import (
	"math/rand"
	"slices"
	"strconv"
	"strings"
	"testing"

	"thunk/api"
	"thunk/core"
	"thunk/strict"
)

// maker makes right terms; few names, that are bound again and again. If it is once, each name is bound once: by what it was and a number.
type maker struct {
	*rand.Rand
	once  bool
	bound *[]string      // the last ones are taken most
	takes map[string]int // how many the functions among them take
}

func newMaker(seed int64, once bool) maker {
	return maker{rand.New(rand.NewSource(seed)), once, &[]string{}, map[string]int{}}
}

// clear forgets what is bound.
func (m maker) clear() {
	*m.bound = nil
	clear(m.takes)
}

func (m maker) pick(texts ...string) string { return texts[m.Intn(len(texts))] }

func (m maker) base() string { return m.pick("f", "g", "x", "y", "input") }

// name is one that is free, or bound, here or elsewhere.
func (m maker) name() string {
	if n := len(*m.bound); n > 0 && m.Intn(8) > 0 {
		return (*m.bound)[n-1-m.Intn(min(n, 6))]
	}
	return m.base()
}

// names are one or more, none twice.
func (m maker) names() (l []string) {
	for n := 1 + m.Intn(3); len(l) < n; {
		name := m.base()
		if m.once {
			name += "." + strconv.Itoa(len(*m.bound)+1)
		}
		if !slices.Contains(l, name) {
			l = append(l, name)
			*m.bound = append(*m.bound, name)
		}
	}
	return l
}

// parts are n terms, each within so many more.
func (m maker) parts(n, most int) (l []api.Expr) {
	for range n {
		l = append(l, m.term(most-1))
	}
	return l
}

func (m maker) atom() api.Expr {
	switch m.Intn(12) {
	case 0:
		return integer(m.pick("0", "-1", "12345678901234567890"))
	case 1:
		return api.Expr{Kind: api.EBool, Text: m.pick("#t", "#f")}
	case 2:
		return api.Expr{Kind: api.ENil}
	case 3:
		return api.Expr{Kind: api.ESym, Text: m.base()}
	}
	return variable(m.name())
}

func (m maker) lambda(most int) api.Expr {
	l := m.names()
	return api.Expr{Kind: api.ELam, Names: l, A: m.parts(1, most)}
}

// letOf binds functions, mostly.
func (m maker) letOf(most int) api.Expr {
	e := api.Expr{Kind: api.ELet, Names: m.names()}
	for _, name := range e.Names {
		value := api.Expr{}
		if m.Intn(3) > 0 {
			value = api.Expr{Kind: api.ELam, Names: m.names()}
			m.takes[name] = len(value.Names)
		}
		e.A = append(e.A, value)
	}
	for i, value := range e.A {
		if value.Kind == api.ELam {
			e.A[i].A = m.parts(1, most-1)
		} else {
			e.A[i] = m.term(most - 1)
		}
	}
	e.A = append(e.A, m.term(most-1))
	return e
}

// call is mostly of a name, with as many as it takes.
func (m maker) call(most int) api.Expr {
	f, n := variable(m.name()), 1+m.Intn(3)
	if m.Intn(4) == 0 {
		f = m.term(most - 1)
	}
	if takes := m.takes[f.Text]; takes > 0 && m.Intn(4) > 0 {
		n = takes
	}
	return app(append([]api.Expr{f}, m.parts(n, most)...)...)
}

func (m maker) term(most int) api.Expr {
	if most <= 0 || m.Intn(8) == 0 {
		return m.atom()
	}
	switch m.Intn(9) {
	case 0:
		return m.lambda(most)
	case 1, 2, 3:
		return m.call(most)
	case 4:
		return api.Expr{Kind: api.EIf, A: m.parts(3, most)}
	case 5, 6:
		return m.letOf(most)
	case 7:
		return prim(m.pick("+", "seq", "eq?", "<", "cons"), m.parts(2, most)...)
	}
	return prim(m.pick("car", "not", "error", "pair?", "null?"), m.parts(1, most)...)
}

// known is some needs, of the names that are there.
func (m maker) known() (l []strict.Need) {
	for _, name := range []string{"f", "g", "x", "y", "input"} {
		if m.Intn(2) == 0 {
			l = append(l, strict.Need{Name: name, Of: m.bools()})
		}
	}
	m.Shuffle(len(l), func(i, j int) { l[i], l[j] = l[j], l[i] })
	return l
}

func (m maker) bools() (l []bool) {
	for range 1 + m.Intn(3) {
		l = append(l, m.Intn(2) == 0)
	}
	return l
}

// slow is what is demanded, names in any order.
type slow struct {
	names []string
	all   bool
}

func (s slow) has(name string) bool { return s.all || slices.Contains(s.names, name) }

func (s slow) with(more slow) slow {
	if s.all || more.all {
		return slow{all: true}
	}
	return slow{names: slices.Concat(s.names, more.names)}
}

// slowDemands is what Demands must be, by the words of the promise, one by one.
func slowDemands(e api.Expr, l []strict.Need) (got slow) {
	switch {
	case e.Kind == api.EVar:
		return slow{names: []string{e.Text}}
	case e.Kind == api.EPrim && e.Text == "error":
		return slow{all: true}
	case e.Kind == api.EPrim && e.Text != "cons":
		for _, part := range e.A {
			got = got.with(slowDemands(part, l))
		}
	case e.Kind == api.EIf:
		first, second, third := slowDemands(e.A[0], l), slowDemands(e.A[1], l), slowDemands(e.A[2], l)
		if second.all {
			return first.with(third)
		}
		return first.with(slow{names: slices.DeleteFunc(second.names, func(name string) bool { return !third.has(name) })})
	case e.Kind == api.EApp:
		got = slowDemands(e.A[0], l)
		for _, need := range l {
			if e.A[0].Kind == api.EVar && e.A[0].Text == need.Name && len(e.A)-1 >= len(need.Of) {
				for i, is := range need.Of {
					if is {
						got = got.with(slowDemands(e.A[1+i], l))
					}
				}
			}
		}
	case e.Kind == api.ELet:
		return slowLet(e, l)
	}
	return got
}

func slowLet(e api.Expr, l []strict.Need) slow {
	got := slowDemands(e.A[len(e.A)-1], l)
	once := make([]bool, len(e.Names))
	for {
		i := slices.IndexFunc(e.Names, func(name string) bool {
			return !once[slices.Index(e.Names, name)] && slices.Contains(got.names, name)
		})
		if i < 0 {
			got.names = slices.DeleteFunc(got.names, func(name string) bool { return slices.Contains(e.Names, name) })
			return got
		}
		once[i], got = true, got.with(slowDemands(e.A[i], l))
	}
}

// function is one with a name, and where it stands: which part of the whole, which part of this, ..; -1 is behind where its let stands.
type function struct {
	at     []int
	name   string
	lambda api.Expr
}

// slowFunctions are all in e, put in order by their places.
func slowFunctions(e api.Expr) []function {
	var all []function
	var walk func(e api.Expr, at []int)
	walk = func(e api.Expr, at []int) {
		for i, part := range e.A {
			walk(part, append(slices.Clone(at), i))
			if e.Kind == api.ELet && i < len(e.Names) && part.Kind == api.ELam {
				all = append(all, function{append(slices.Clone(at), -1, i), e.Names[i], part})
			}
		}
	}
	walk(e, nil)
	slices.SortFunc(all, func(a, b function) int { return slices.Compare(a.at, b.at) })
	return all
}

// next is what l becomes, if each function's body is asked by l.
func next(all []function, l []strict.Need) (more []strict.Need) {
	for _, f := range all {
		need, d := strict.Need{Name: f.name}, slowDemands(f.lambda.A[0], l)
		for _, name := range f.lambda.Names {
			need.Of = append(need.Of, d.has(name))
		}
		more = append(more, need)
	}
	return more
}

// slowNeeds is what Needs must be: all are needed, till nothing changes.
func slowNeeds(e api.Expr) (l []strict.Need) {
	all := slowFunctions(e)
	for _, f := range all {
		l = append(l, strict.Need{Name: f.name, Of: slices.Repeat([]bool{true}, len(f.lambda.Names))})
	}
	for {
		more := next(all, l)
		if needsText(more) == needsText(l) {
			return l
		}
		l = more
	}
}

// stable are all answers that stay as they are, if each function's body is asked by them: Needs is the greatest of these.
func stable(all []function, begun []strict.Need) (answers []string) {
	if len(begun) == len(all) {
		if needsText(next(all, begun)) == needsText(begun) {
			answers = append(answers, needsText(begun))
		}
		return answers
	}
	f := all[len(begun)]
	for bits := range 1 << len(f.lambda.Names) {
		need := strict.Need{Name: f.name}
		for i := range f.lambda.Names {
			need.Of = append(need.Of, bits>>i&1 == 1)
		}
		answers = append(answers, stable(all, append(slices.Clone(begun), need))...)
	}
	return answers
}

// greatest is the text of answers in which all is needed that is in one of them.
func greatest(answers []string) string {
	text := []byte(answers[0])
	for _, answer := range answers {
		for i := range text {
			if digit := strings.LastIndexByte(answer[:i+1], ' ') < strings.LastIndexByte(answer[:i+1], ':'); digit {
				text[i] = max(text[i], answer[i])
			}
		}
	}
	return string(text)
}

func checkDemands(t *testing.T, e api.Expr, l []strict.Need) string {
	t.Helper()
	d := slowDemands(e, l)
	slices.Sort(d.names)
	want := strings.Join(slices.Compact(d.names), " ")
	if d.all {
		want = "all"
	}
	if got := demandsText(t, e, l); got != want {
		t.Fatalf("P801: Demands(%s, %s) is %q, not %q", core.Text(e), needsText(l), got, want)
	}
	return want
}

func checkNeeds(t *testing.T, e api.Expr) string {
	t.Helper()
	got, want := needsText(strict.Needs(e)), needsText(slowNeeds(e))
	if got != want {
		t.Fatalf("P802: Needs(%s) is %s, not %s", core.Text(e), got, want)
	}
	return got
}

// TestManyDemands: of terms whose names are bound again within, too.
func TestManyDemands(t *testing.T) {
	m, count := newMaker(1, false), [4]int{}
	for range 60000 {
		m.clear()
		e := m.term(m.Intn(6))
		got := checkDemands(t, e, m.known())
		if got == "all" {
			count[3]++
		} else {
			count[min(len(strings.Fields(got)), 2)]++
		}
	}
	if slices.Min(count[:]) < 1500 {
		t.Errorf("with no, one, more and all names: %v", count)
	}
}

func TestManyNeeds(t *testing.T) {
	m, count := newMaker(2, true), [2]int{}
	for range 20000 {
		m.clear()
		e := m.term(2 + m.Intn(6))
		got := checkNeeds(t, e)
		checkDemands(t, e, strict.Needs(e))
		count[0] += strings.Count(got, "0")
		count[1] += strings.Count(got, "1")
	}
	if slices.Min(count[:]) < 10000 {
		t.Errorf("not needed, needed: %v", count)
	}
}

// TestGreatest: of all answers that stay as they are, Needs is the greatest.
func TestGreatest(t *testing.T) {
	m, several := newMaker(3, true), 0
	for range 60000 {
		m.clear()
		e := m.letOf(3)
		all := slowFunctions(e)
		bits := 0
		for _, f := range all {
			bits += len(f.lambda.Names)
		}
		if bits == 0 || bits > 7 {
			continue
		}
		answers := stable(all, nil)
		if got := needsText(strict.Needs(e)); got != greatest(answers) || !slices.Contains(answers, got) {
			t.Fatalf("P802: Needs(%s) is %s, of %q", core.Text(e), got, answers)
		}
		if len(answers) > 1 {
			several++
		}
	}
	if several < 300 {
		t.Errorf("more than one answer: only %d", several)
	}
}

// FuzzNeeds may be given more time by hand: go test -fuzz FuzzNeeds ./strict
func FuzzNeeds(f *testing.F) {
	for i := range int64(20) {
		f.Add(i)
	}
	f.Fuzz(func(t *testing.T, seed int64) {
		m := newMaker(seed, true)
		e := m.term(m.Intn(8))
		checkNeeds(t, e)
		checkDemands(t, e, strict.Needs(e))
		m = newMaker(seed, false)
		checkDemands(t, m.term(m.Intn(8)), m.known())
	})
}
