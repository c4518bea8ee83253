package rules_test

import (
	"math/rand"
	"reflect"
	"slices"
	"strconv"
	"strings"
	"testing"

	"thunk/api"
	"thunk/datum"
	"thunk/rules"
)

// span is the memory of a list, its spare room too.
type span struct{ from, to uintptr }

// spans are those of all lists in v.
func spans(all []span, v reflect.Value) []span {
	switch v.Kind() {
	case reflect.Struct:
		for i := range v.NumField() {
			all = spans(all, v.Field(i))
		}
	case reflect.Slice:
		if v.Cap() > 0 {
			all = append(all, span{v.Pointer(), v.Pointer() + uintptr(v.Cap())*v.Type().Elem().Size()})
		}
		for i := range v.Len() {
			all = spans(all, v.Index(i))
		}
	}
	return all
}

func spansOf(values ...any) (all []span) {
	for _, v := range values {
		all = spans(all, reflect.ValueOf(v))
	}
	return all
}

// overlap tells whether two of these have memory in common.
func overlap(all []span) bool {
	all = slices.SortedFunc(slices.Values(all), func(a, b span) int { return int(int64(a.from) - int64(b.from)) })
	for i := 1; i < len(all); i++ {
		if all[i].from < all[i-1].to {
			return true
		}
	}
	return false
}

// dump writes all of v, what stands in spare room too.
func dump(s *strings.Builder, v reflect.Value) {
	switch v.Kind() {
	case reflect.Struct:
		for i := range v.NumField() {
			dump(s, v.Field(i))
		}
	case reflect.Slice:
		s.WriteString("[" + strconv.Itoa(v.Len()) + ":")
		for i := range v.Cap() {
			dump(s, v.Slice(0, v.Cap()).Index(i))
		}
		s.WriteString("]")
	case reflect.String:
		s.WriteString(strconv.Quote(v.String()))
	case reflect.Int:
		s.WriteString(strconv.FormatInt(v.Int(), 10) + ",")
	}
}

func dumpOf(values ...any) string {
	var s strings.Builder
	for _, v := range values {
		dump(&s, reflect.ValueOf(v))
	}
	return s.String()
}

// empty tells whether nothing stands in the spare room of any list in v.
func empty(v reflect.Value) bool {
	switch v.Kind() {
	case reflect.Struct:
		for i := range v.NumField() {
			if !empty(v.Field(i)) {
				return false
			}
		}
	case reflect.Slice:
		for i := range v.Cap() {
			x := v.Slice(0, v.Cap()).Index(i)
			if i < v.Len() && !empty(x) || i >= v.Len() && !x.IsZero() {
				return false
			}
		}
	}
	return true
}

// roomy is d in memory of its own, something in the spare room of each list.
func roomy(d api.Datum) api.Datum {
	d.Marks = append(append([]int{}, d.Marks...), 77, 78)[:len(d.Marks)]
	l := make([]api.Datum, 0, len(d.L)+2)
	for _, part := range d.L {
		l = append(l, roomy(part))
	}
	d.L = append(l, symbol("spare", 79), symbol("..."))[:len(d.L)]
	return d
}

func roomyBounds(l []rules.Bound) []rules.Bound {
	all := make([]rules.Bound, 0, len(l)+1)
	for _, b := range l {
		all = append(all, rules.Bound{Name: roomy(b.Name), Deep: b.Deep, D: roomy(b.D), L: roomyBounds(b.L)})
	}
	return append(all, rules.Bound{Name: symbol("f"), D: integer("79")})[:len(l)]
}

// TestMemory: what is handed in stays as it is, answers are new, and no two lists of one are one; nor is anything kept.
func TestMemory(t *testing.T) {
	m := &maker{Rand: rand.New(rand.NewSource(3))}
	filled := 0
	for range 5000 {
		pattern, template, d := m.rule()
		pattern, template, d = roomy(pattern), roomy(template), roomy(d)
		lits := append(slices.Clone(m.lits), "x", "f")[:len(m.lits)]
		before := dumpOf(lits, pattern, template, d)
		rules.Check(lits, pattern, template)
		l, _ := rules.Match(lits, pattern, d)
		if dumpOf(lits, pattern, template, d) != before {
			t.Fatalf("P2: Check or Match changed what it was handed: %s", told(pattern))
		}
		if overlap(append(spansOf(l), spansOf(pattern, template, d)...)) || !empty(reflect.ValueOf(l)) {
			t.Fatalf("P2: Match(%s, %s): memory is shared, or spare room full", told(pattern), told(d))
		}
		l = roomyBounds(l)
		before = dumpOf(template, l)
		got, is := rules.Fill(template, l, 5)
		if dumpOf(template, l) != before {
			t.Fatalf("P2: Fill changed what it was handed: %s, %s", told(template), row(l))
		}
		if overlap(append(spansOf(got), spansOf(template, l)...)) || !empty(reflect.ValueOf(got)) {
			t.Fatalf("P2: Fill(%s, %s): memory is shared, or spare room full", told(template), row(l))
		}
		if is && len(l) > 0 {
			filled++
		}
	}
	if filled < 1000 {
		t.Errorf("only %d", filled)
	}
}

// TestSharedMemory: lists that are one, as they are handed in, are apart in the answer.
func TestSharedMemory(t *testing.T) {
	all := append(make([]api.Datum, 0, 8), symbol("a", 1, 2), list(symbol("b", 1)), symbol("c"))
	d := list(list(all...), list(all...), list(all[:1]...), list(all[1:]...), list(all[:0]...), list(list(all...)))
	l, is := rules.Match(nil, parse("(x (y ...) z ... (w))"), d)
	if !is || overlap(append(spansOf(l), spansOf(d)[:1]...)) {
		t.Error("P2: Match of shared lists")
	}
	l = []rules.Bound{{Name: symbol("x"), D: d.L[0]}, {Name: symbol("y"), Deep: 1, L: []rules.Bound{{D: d.L[0]}, {D: d.L[2]}}}}
	got, is := rules.Fill(parse("(x x (x y) ... y ... f/1 f/1)"), l, 3)
	if !is || overlap(spansOf(got)) || told(got.L[3]) != "((a/1/2 (b/1) c) (a/1/2))" {
		t.Error("P2: Fill of shared lists")
	}
	template := list(list(all...), list(all...), list(all[1:]...))
	got, is = rules.Fill(template, nil, 3)
	if !is || overlap(spansOf(got)) || told(got) != "((a/1/2/3 (b/1/3) c/3) (a/1/2/3 (b/1/3) c/3) ((b/1/3) c/3))" {
		t.Error("P2: Fill of a template with shared lists")
	}
}

// TestSameAgain: nothing is kept from call to call.
func TestSameAgain(t *testing.T) {
	all := func() (got []string) {
		m := &maker{Rand: rand.New(rand.NewSource(4))}
		for range 3000 {
			pattern, template, d := m.rule()
			e := rules.Check(m.lits, pattern, template)
			l, is := rules.Match(m.lits, pattern, d)
			filled, whole := rules.Fill(template, l, 6)
			got = append(got, e.Error()+row(l)+strconv.FormatBool(is)+fixed(filled)+strconv.FormatBool(whole))
		}
		return got
	}
	first := all()
	for i, x := range all() {
		if x != first[i] {
			t.Fatalf("P3: rule %d: %s, then %s", i, first[i], x)
		}
	}
}

// wild is any datum.
func wild(r *rand.Rand, most int) api.Datum {
	d := api.Datum{Kind: r.Intn(7) - 1, Text: []string{"", "x", "y", "_", "...", "...", "1"}[r.Intn(7)], At: r.Intn(9) - 4}
	for range r.Intn(2) {
		d.Marks = append(d.Marks, r.Intn(2))
	}
	if r.Intn(2) == 0 {
		d.Kind = []int{api.DSym, api.DList}[r.Intn(2)]
	}
	if most > 0 && (d.Kind == api.DList || r.Intn(5) == 0) {
		for range r.Intn(5) {
			d.L = append(d.L, wild(r, most-1))
		}
	}
	return d
}

// wildBounds are any.
func wildBounds(r *rand.Rand, most int) (l []rules.Bound) {
	for range r.Intn(4) {
		b := rules.Bound{Name: wild(r, 0), Deep: r.Intn(5) - 1, D: wild(r, 1)}
		if most > 0 {
			b.L = wildBounds(r, most-1)
		}
		l = append(l, b)
	}
	return l
}

// TestWild: whatever is handed in: Check answers what it must, the others end and answer nothing beside a false.
func TestWild(t *testing.T) {
	r := rand.New(rand.NewSource(5))
	for range 100000 {
		lits := [][]string{nil, {""}, {"x", "..."}, {"_", "1"}}[r.Intn(4)]
		pattern, template, d := wild(r, r.Intn(4)), wild(r, r.Intn(4)), wild(r, r.Intn(4))
		checkRule(t, lits, pattern, template, slowCheck(lits, pattern, template))
		l, is := rules.Match(lits, pattern, d)
		if !is && len(l) > 0 {
			t.Fatalf("P4: Match(%q, %+v, %+v) is %s beside false", lits, pattern, d, row(l))
		}
		bounds := wildBounds(r, 3)
		for _, l := range [][]rules.Bound{l, bounds} {
			filled, is := rules.Fill(template, l, r.Intn(5))
			if !is && !equal(filled, api.Datum{}) {
				t.Fatalf("P4: Fill(%+v, %s) is %+v beside false", template, row(l), filled)
			}
			if overlap(append(spansOf(filled), spansOf(template, l)...)) {
				t.Fatalf("P2: Fill(%+v, %s)", template, row(l))
			}
		}
	}
}

const deepest = 2000 // as deep as data that are handed in may hang on one another

// within is d within so many lists, what stands ahead and behind in each.
func within(n int, d api.Datum, ahead, behind []api.Datum) api.Datum {
	for range n {
		d = list(slices.Concat(ahead, []api.Datum{d}, behind)...)
	}
	return d
}

func TestDeep(t *testing.T) {
	x, dots, one := symbol("x", 1), symbol("..."), integer("1")
	rows := within(deepest-1, x, nil, []api.Datum{dots})
	d := within(deepest-1, one, nil, nil)
	checkRule(t, nil, rows, rows, api.OK)
	checkRule(t, nil, rows, within(deepest-2, x, nil, []api.Datum{dots}), api.ErrForm)
	checkRule(t, nil, within(deepest-1, x, []api.Datum{x}, nil), x, api.ErrTwice)
	checkRule(t, nil, within(deepest-1, list(x, dots, dots), nil, nil), x, api.ErrForm)
	l, is := rules.Match(nil, rows, d)
	if !is || len(l) != 1 || l[0].Deep != deepest-1 || !datum.Same(leaf(l[0], make([]int, deepest-1)).D, one) {
		t.Fatal("P402: Match within many dots")
	}
	if got, is := rules.Fill(rows, l, 1); !is || !datum.Same(got, d) {
		t.Error("P403: Fill within many dots")
	}
	plain := within(deepest-1, x, []api.Datum{one}, []api.Datum{one, one})
	checkRule(t, nil, plain, plain, api.OK)
	l, is = rules.Match(nil, plain, within(deepest-1, d.L[0], []api.Datum{one}, []api.Datum{one, one}))
	if !is || len(l) != 1 || !datum.Same(l[0].D, d.L[0]) {
		t.Fatal("P402: Match of deep ones")
	}
	if got, is := rules.Fill(plain, l, 1); !is || datum.Size(got) != datum.Size(plain)-1+datum.Size(d.L[0]) {
		t.Error("P403: Fill of deep ones")
	}
}

// names are n symbols: of texts of their own, or of one text, marks alone telling them apart.
func names(n int, one bool) (l []api.Datum) {
	for i := range n {
		if one {
			l = append(l, symbol("x", 1, i))
		} else {
			l = append(l, symbol("x"+strconv.Itoa(i)))
		}
	}
	return l
}

func TestWide(t *testing.T) {
	const wide = 20000
	for _, one := range []bool{false, true} {
		l := names(wide, one)
		pattern := list(l...)
		checkRule(t, nil, pattern, pattern, api.OK)
		checkRule(t, nil, list(append(l, l[wide-1])...), pattern, api.ErrTwice)
		d := list(slices.Repeat([]api.Datum{integer("1")}, wide)...)
		bound, is := rules.Match(nil, pattern, d)
		if !is || len(bound) != wide {
			t.Fatal("P402: Match of a wide one")
		}
		if got, is := rules.Fill(pattern, bound, 1); !is || !datum.Same(got, d) {
			t.Error("P403: Fill of a wide one")
		}
	}
	var lits []string
	for _, d := range names(wide, false) {
		lits = append(lits, d.Text)
	}
	all := list(names(wide, false)...)
	checkMatch(t, lits, all, all, "")
}

// TestLongRows: the work for a long row is as long as it is.
func TestLongRows(t *testing.T) {
	const long = 100000
	l := names(long, false)
	for i, d := range l {
		l[i] = list(d, integer("1"), d)
	}
	bound, is := rules.Match(nil, parse("((x y z) ... (a (b ...) c))"), list(append(l, list(l[0], list(), l[0]))...))
	if !is || len(bound) != 6 || len(bound[1].L) != long {
		t.Fatal("P402: Match of a long one")
	}
	got, is := rules.Fill(parse("((x y z) ...)"), bound, 1)
	if !is || !datum.Same(got, list(l...)) {
		t.Error("P403: Fill of a long one")
	}
	got, is = rules.Fill(parse("((f x c) ... z ... y ...)"), bound, 1)
	if !is || len(got.L) != 3*long || told(got.L[long-1]) != "(f/1 x99999 (x0 1 x0))" {
		t.Error("P403: Fill of a long one")
	}
}

// FuzzRule may be given more time by hand: go test -fuzz FuzzRule ./rules
func FuzzRule(f *testing.F) {
	for i := range int64(20) {
		f.Add(i)
	}
	f.Fuzz(func(t *testing.T, seed int64) {
		checkSome(t, &maker{Rand: rand.New(rand.NewSource(seed))}, map[string]int{})
	})
}
