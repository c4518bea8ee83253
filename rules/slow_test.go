package rules_test

import (
	"math/rand"
	"slices"
	"strconv"
	"testing"

	"thunk/api"
	"thunk/datum"
	"thunk/rules"
)

// stand is a datum of a pattern or template, and how it stands there: in which list, what is behind and ahead of it there, and within which parts with dots behind them, itself too.
type stand struct {
	d             api.Datum
	list, at      int
	ahead, behind bool // dots
	within        []int
}

// stands is d, which stands as x says, and all that stand in it; a part with dots behind it is told by its number among all.
func stands(all []stand, x stand) []stand {
	n := len(all)
	if x.behind {
		x.within = append(slices.Clone(x.within), n)
	}
	all = append(all, x)
	if x.d.Kind == api.DList {
		for i, part := range x.d.L {
			all = stands(all, stand{part, n, i, i > 0 && datum.Is(x.d.L[i-1], "..."), i+1 < len(x.d.L) && datum.Is(x.d.L[i+1], "..."), x.within})
		}
	}
	return all
}

func standsOf(d api.Datum) []stand { return stands(nil, stand{d: d, list: -1}) }

// isVariable tells whether d is one, in a pattern.
func isVariable(lits []string, d api.Datum) bool {
	return d.Kind == api.DSym && d.Text != "..." && d.Text != "_" && !slices.Contains(lits, d.Text)
}

// variablesOf are those of a pattern, in order.
func variablesOf(lits []string, pattern api.Datum) (l []stand) {
	for _, x := range standsOf(pattern) {
		if isVariable(lits, x.d) {
			l = append(l, x)
		}
	}
	return l
}

// slowCheck is what Check must be, by the words of the promise, one by one.
func slowCheck(lits []string, pattern, template api.Datum) api.Errno {
	all := standsOf(pattern)
	for _, x := range all {
		another := func(y stand) bool { return y.list == x.list && y.at != x.at && datum.Is(y.d, "...") }
		if datum.Is(x.d, "...") && (x.list < 0 || x.at == 0 || slices.ContainsFunc(all, another)) {
			return api.ErrForm
		}
	}
	if pattern.Kind != api.DList {
		return api.ErrForm
	}
	variables := variablesOf(lits, pattern)
	for i, x := range variables {
		for _, y := range variables[:i] {
			if datum.Same(x.d, y.d) {
				return api.ErrTwice
			}
		}
	}
	depth := func(d api.Datum) int {
		at := slices.IndexFunc(variables, func(x stand) bool { return datum.Same(x.d, d) })
		if at < 0 {
			return 0
		}
		return len(variables[at].within)
	}
	all = standsOf(template)
	for n, x := range all {
		deep := depth(x.d)
		within := func(y stand) bool { return slices.Contains(y.within, n) && depth(y.d) >= len(x.within) }
		switch {
		case datum.Is(x.d, "...") && (x.at == 0 || x.ahead),
			deep > 0 && deep != len(x.within),
			x.behind && !slices.ContainsFunc(all, within):
			return api.ErrForm
		}
	}
	return api.OK
}

// cells are what is bound, flat: what stands in a variable's rows, by its name and the places there; and how long each row is.
type cells struct {
	d    map[string]string
	long map[string]int
}

// fixed tells whether all of d is the same, places too: as a text.
func fixed(d api.Datum) string {
	s := strconv.Itoa(d.Kind) + strconv.Quote(told(d)) + "@" + strconv.Itoa(d.At)
	for _, part := range d.L {
		s += " " + fixed(part)
	}
	return "(" + s + ")"
}

// slowMatch tells whether d is of p's form, by writing out what stands under dots as often as it may be meant; c becomes what is bound.
func slowMatch(lits []string, p, d api.Datum, path string, c cells) bool {
	switch {
	case isVariable(lits, p):
		c.d[told(p)+path] = fixed(d)
		return true
	case p.Kind == api.DSym && slices.Contains(lits, p.Text):
		return d.Kind == api.DSym && d.Text == p.Text
	case p.Kind == api.DSym:
		return p.Text == "_"
	case p.Kind != api.DList:
		return (p.Kind == api.DInt || p.Kind == api.DBool) && p.Kind == d.Kind && p.Text == d.Text
	case d.Kind != api.DList:
		return false
	}
	at := slices.IndexFunc(p.L, func(x api.Datum) bool { return datum.Is(x, "...") })
	for times := range len(d.L) + 1 {
		long, paths := p.L, make([]string, len(p.L))
		if at > 0 {
			long = slices.Concat(p.L[:at-1], slices.Repeat(p.L[at-1:at], times), p.L[at+1:])
			paths = make([]string, len(long))
			for i := range times {
				paths[at-1+i] = ":" + strconv.Itoa(i)
			}
			for _, x := range variablesOf(lits, p.L[at-1]) {
				c.long[told(x.d)+path] = times
			}
		}
		if len(long) == len(d.L) {
			for i := range long {
				if !slowMatch(lits, long[i], d.L[i], path+paths[i], c) {
					return false
				}
			}
			return true
		}
	}
	return false
}

// flat puts what is bound into c.
func flat(b rules.Bound, path string, c cells) {
	if b.Deep == 0 {
		c.d[told(b.Name)+path] = fixed(b.D)
		return
	}
	c.long[told(b.Name)+path] = len(b.L)
	for i, x := range b.L {
		flat(x, path+":"+strconv.Itoa(i), c)
	}
}

func newCells() cells { return cells{map[string]string{}, map[string]int{}} }

// leaf is what stands at those places of a row.
func leaf(b rules.Bound, path []int) rules.Bound {
	for _, i := range path {
		b = b.L[i]
	}
	return b
}

// slowFill is what Fill must be, within the dots at those places.
func slowFill(t api.Datum, l []rules.Bound, path []int, mark int) (all []api.Datum, is bool) {
	for _, b := range l {
		if datum.Same(b.Name, t) {
			return []api.Datum{leaf(b, path[:b.Deep]).D}, true
		}
	}
	t.At = 0
	if t.Kind == api.DSym {
		t.Marks = append(slices.Clone(t.Marks), mark)
	}
	if t.Kind != api.DList {
		return []api.Datum{t}, true
	}
	d := list()
	for i, part := range t.L {
		times := []int{-1}
		if i+1 < len(t.L) && datum.Is(t.L[i+1], "...") {
			times = slowTimes(part, l, path)
		}
		if datum.Is(part, "...") {
			times = []int{0}
		}
		if len(times) != 1 {
			return nil, false
		}
		if times[0] < 0 {
			l, is := slowFill(part, l, path, mark)
			if !is {
				return nil, false
			}
			d.L = append(d.L, l...)
		}
		for k := range max(times[0], 0) {
			l, is := slowFill(part, l, append(slices.Clone(path), k), mark)
			if !is {
				return nil, false
			}
			d.L = append(d.L, l...)
		}
	}
	return []api.Datum{d}, true
}

// slowTimes is all the lengths that a part's rows have, each once.
func slowTimes(part api.Datum, l []rules.Bound, path []int) (times []int) {
	for _, x := range standsOf(part) {
		for _, b := range l {
			if datum.Same(b.Name, x.d) && b.Deep > len(path) {
				times = append(times, len(leaf(b, path).L))
			}
		}
	}
	slices.Sort(times)
	return slices.Compact(times)
}

// maker makes rules, and data that they may be of.
type maker struct {
	*rand.Rand
	lits  []string
	names int
}

// pattern is one, within so many others at most; now and then a name comes again.
func (m *maker) pattern(most int) api.Datum {
	switch kind := m.Intn(12); {
	case kind == 0:
		return integer(strconv.Itoa(m.Intn(3)))
	case kind == 1:
		return symbol([]string{"_", "else", "=>"}[m.Intn(3)])
	case kind == 2:
		return boolean("#t")
	case kind < 8 || most == 0:
		m.names++
		n := m.names
		if m.Intn(60) == 0 {
			n = m.Intn(n + 1)
		}
		return symbol(string(rune('a'+n%7)), [][]int{nil, {1}, {2}, {1, 2}}[n/7%4]...)
	}
	d := list()
	for range m.Intn(4) {
		d.L = append(d.L, m.pattern(most-1))
	}
	if n := len(d.L); n > 0 && m.Intn(3) > 0 {
		d.L = slices.Insert(d.L, 1+m.Intn(n), symbol("..."))
	}
	return d
}

// datum is any, small one.
func (m *maker) datum(most int) api.Datum {
	switch kind := m.Intn(8); {
	case kind == 0:
		return integer(strconv.Itoa(m.Intn(3)))
	case kind == 1:
		return boolean([]string{"#t", "#f"}[m.Intn(2)])
	case kind < 5 || most == 0:
		return symbol([]string{"x", "y", "else", "=>", "...", "_"}[m.Intn(6)], [][]int{nil, {1}, {2, 3}}[m.Intn(3)]...)
	}
	d := list()
	for range m.Intn(4) {
		d.L = append(d.L, m.datum(most-1))
	}
	return d
}

// like is a datum of p's form.
func (m *maker) like(p api.Datum) api.Datum {
	switch {
	case isVariable(m.lits, p) || p.Kind == api.DSym && !slices.Contains(m.lits, p.Text):
		return m.datum(2)
	case p.Kind != api.DList:
		return p
	}
	d := list()
	times := m.Intn(3)
	for i, part := range p.L {
		if datum.Is(part, "...") {
			continue
		}
		n := 1
		if i+1 < len(p.L) && datum.Is(p.L[i+1], "...") {
			n = times
			if m.Intn(4) == 0 {
				n = m.Intn(4)
			}
		}
		for range n {
			d.L = append(d.L, m.like(part))
		}
	}
	return d
}

// template is one by these variables, within so many dots.
func (m *maker) template(l []stand, within, most int) api.Datum {
	if kind := m.Intn(10); kind < 2 || kind < 6 && most == 0 {
		return m.datum(1)
	}
	if most == 0 || m.Intn(2) == 0 {
		var fit []stand
		for _, x := range l {
			switch deep := len(x.within); {
			case deep > 0 && deep == within:
				fit = append(fit, x, x, x)
			case deep == 0 || m.Intn(40) == 0:
				fit = append(fit, x)
			}
		}
		if len(fit) > 0 {
			return fit[m.Intn(len(fit))].d
		}
	}
	d := list()
	for range m.Intn(5) {
		if m.Intn(2) == 0 {
			d.L = append(d.L, m.template(l, within, max(most-1, 0)))
		} else if part := m.template(l, within+1, max(most-1, 0)); m.Intn(60) == 0 || hasRow(l, part, within+1) {
			d.L = append(d.L, part, symbol("..."))
		}
	}
	return d
}

// beside is a template in which some of these variables, those of rows ahead, go side by side, from those within so many dots on.
func (m *maker) beside(l []stand, within int) api.Datum {
	d, deeper := list(), false
	for _, x := range l {
		if deep := len(x.within); deep == 0 || deep == within {
			d.L = append(d.L, x.d)
		} else if deep > within {
			deeper = true
		}
	}
	if deeper {
		d.L = append(d.L, m.beside(l, within+1), symbol("..."), m.datum(0))
	}
	return d
}

// some are a few of these variables.
func (m *maker) some(l []stand) (few []stand) {
	for range m.Intn(4) {
		if x := l[m.Intn(len(l))]; len(x.within) > 0 || m.Intn(4) == 0 {
			few = append(few, x)
		}
	}
	return few
}

// hasRow tells whether one of these variables, of such a depth, is in d.
func hasRow(l []stand, d api.Datum, deep int) bool {
	return slices.ContainsFunc(l, func(x stand) bool {
		is := func(y stand) bool { return datum.Same(x.d, y.d) }
		return len(x.within) >= deep && slices.ContainsFunc(standsOf(d), is)
	})
}

// places lets each datum stand somewhere else.
func places(d *api.Datum, at int) int {
	d.At = at
	for i := range d.L {
		at = places(&d.L[i], at+1)
	}
	return at + 1
}

// spoilt is d with one of its data another one.
func (m *maker) spoilt(d api.Datum) api.Datum {
	d = clone(d)
	all := nodes(&d)
	x := all[m.Intn(len(all))]
	switch n := len(x.L); {
	case m.Intn(3) == 0 && n > 0:
		i := m.Intn(n)
		x.L = slices.Delete(x.L, i, i+1)
	case m.Intn(2) == 0 && n > 0:
		x.L = slices.Insert(x.L, m.Intn(n+1), symbol("..."))
	case m.Intn(2) == 0 && n > 0:
		x.L = append(x.L, x.L[m.Intn(n)])
	default:
		*x = m.datum(2)
	}
	return d
}

// clone is d in memory of its own.
func clone(d api.Datum) api.Datum {
	d.Marks, d.L = slices.Clone(d.Marks), slices.Clone(d.L)
	for i := range d.L {
		d.L[i] = clone(d.L[i])
	}
	return d
}

// nodes is d and all that hang on it.
func nodes(d *api.Datum) []*api.Datum {
	all := []*api.Datum{d}
	for i := range d.L {
		all = append(all, nodes(&d.L[i])...)
	}
	return all
}

// rule is a pattern, a template, a datum, each as it may be or not.
func (m *maker) rule() (pattern, template, d api.Datum) {
	m.lits = [][]string{nil, {"else"}, {"=>", "else"}, {"_"}, {"...", "a"}}[m.Intn(5)]
	m.names = m.Intn(10)
	pattern = list()
	for range 1 + m.Intn(4) {
		if pattern.L = append(pattern.L, m.pattern(3)); m.Intn(3) > 0 {
			pattern.L = append(pattern.L, list(m.pattern(2), symbol("...")), m.pattern(1))
		}
	}
	variables := variablesOf(m.lits, pattern)
	template, d = m.template(variables, 0, 3), m.like(pattern)
	if len(variables) > 0 && m.Intn(2) == 0 {
		template = list(m.beside(m.some(variables), 0), m.template(variables, 0, 1))
	}
	if m.Intn(5) == 0 {
		d = m.spoilt(d)
	}
	if m.Intn(10) == 0 {
		pattern = m.spoilt(pattern)
	}
	if m.Intn(10) == 0 {
		template = m.spoilt(template)
	}
	places(&pattern, 1000)
	places(&template, 2000)
	places(&d, 3000)
	return pattern, template, d
}

func checkSlowMatch(t *testing.T, lits []string, pattern, d api.Datum) ([]rules.Bound, bool) {
	t.Helper()
	want, got := newCells(), newCells()
	must := slowMatch(lits, pattern, d, "", want)
	l, is := rules.Match(lits, pattern, d)
	if is != must {
		t.Fatalf("P402: Match(%q, %s, %s) is %v", lits, told(pattern), told(d), is)
	}
	if !is {
		return nil, false
	}
	variables := variablesOf(lits, pattern)
	if len(l) != len(variables) {
		t.Fatalf("P402: Match(%q, %s, %s) is %s", lits, told(pattern), told(d), row(l))
	}
	row(l)
	for i, b := range l {
		flat(b, "", got)
		if !equal(b.Name, variables[i].d) || b.Deep != len(variables[i].within) {
			t.Fatalf("P402: Match(%q, %s, %s) is %s", lits, told(pattern), told(d), row(l))
		}
	}
	if !sameCells(got, want) {
		t.Fatalf("P402: Match(%q, %s, %s) is %s: %v, not %v", lits, told(pattern), told(d), row(l), got, want)
	}
	return l, true
}

func sameCells(a, b cells) bool {
	for k, x := range a.d {
		if y, is := b.d[k]; !is || x != y {
			return false
		}
	}
	for k, x := range a.long {
		if y, is := b.long[k]; !is || x != y {
			return false
		}
	}
	return len(a.d) == len(b.d) && len(a.long) == len(b.long)
}

// checkSome holds a rule against the slow ways, and tells how far it went.
func checkSome(t *testing.T, m *maker, count map[string]int) {
	t.Helper()
	pattern, template, d := m.rule()
	e := slowCheck(m.lits, pattern, template)
	checkRule(t, m.lits, pattern, template, e)
	count[e.Error()]++
	if slowCheck(m.lits, pattern, list()) != api.OK {
		return
	}
	l, is := checkSlowMatch(t, m.lits, pattern, d)
	if !is {
		count["no match"]++
		return
	}
	if e != api.OK {
		return
	}
	want, must := slowFill(template, l, nil, 9)
	got, is := rules.Fill(template, l, 9)
	if is != must || is && !equal(got, want[0]) {
		t.Fatalf("P403: Fill(%s, %s) is %s, %v, not %v", told(template), row(l), told(got), is, want)
	}
	if !is && !equal(got, api.Datum{}) {
		t.Fatalf("P4: Fill(%s, %s) is %s beside false", told(template), row(l), told(got))
	}
	count["filled "+strconv.FormatBool(is)]++
}

func TestSomeRules(t *testing.T) {
	m := &maker{Rand: rand.New(rand.NewSource(1))}
	count := map[string]int{}
	for range 60000 {
		checkSome(t, m, count)
	}
	t.Log(count)
	for _, k := range []string{"ok", "form", "twice", "no match", "filled true", "filled false"} {
		if count[k] < 500 {
			t.Errorf("only %d %s", count[k], k)
		}
	}
}

// TestPatternAsTemplate: P404: where a pattern is variables alone, what it binds in a datum fills it as that datum, places of the lists aside.
func TestPatternAsTemplate(t *testing.T) {
	m := &maker{Rand: rand.New(rand.NewSource(2))}
	done := 0
	for done < 5000 {
		pattern, _, d := m.rule()
		if slowCheck(nil, pattern, pattern) != api.OK {
			continue
		}
		l, is := rules.Match(nil, pattern, d)
		constant := func(x *api.Datum) bool { return x.Kind == api.DSym && x.Text == "_" }
		if !is || slices.ContainsFunc(nodes(&pattern), constant) {
			continue
		}
		got, is := rules.Fill(pattern, l, 4)
		if !is || !datum.Same(got, d) {
			t.Fatalf("P404: Fill(%s, %s) is %s, %v, not %s", told(pattern), row(l), told(got), is, told(d))
		}
		done++
	}
}
