package datum_test

import (
	"math/rand"
	"reflect"
	"slices"
	"strconv"
	"strings"
	"testing"

	"thunk/api"
	"thunk/datum"
)

const deepest = 2000 // as deep as data that are handed in may hang on one another

// integer, boolean, symbol, list are data as they are read.
func integer(text string) api.Datum { return api.Datum{Kind: api.DInt, Text: text} }

func boolean(text string) api.Datum { return api.Datum{Kind: api.DBool, Text: text} }

func symbol(text string, marks ...int) api.Datum {
	return api.Datum{Kind: api.DSym, Text: text, Marks: marks}
}

func list(parts ...api.Datum) api.Datum { return api.Datum{Kind: api.DList, L: parts} }

// deep is a symbol within that many lists.
func deep(n int) api.Datum {
	d := symbol("x", 1)
	for range n {
		d = list(d)
	}
	return d
}

// odd are data that nothing reads: kinds that are none, and fields that their kind has no use for.
func odd() []api.Datum {
	parts := func() []api.Datum { return []api.Datum{symbol("a", 1), list(symbol("b", 2))} }
	return []api.Datum{
		{},
		{Text: "none", L: parts()},
		{Kind: -1, Text: "less", Marks: []int{3}, L: parts(), At: -9},
		{Kind: 5, Text: "more", Marks: []int{3}, L: parts(), At: 9},
		{Kind: api.DInt, Text: "no number", Marks: []int{3}, L: parts()},
		{Kind: api.DBool, Text: "\x00\xff(", Marks: []int{3}, L: parts()},
		{Kind: api.DSym, Text: "", Marks: []int{3, 3, -1}, L: parts()},
		{Kind: api.DList, Text: "a text of no use", Marks: []int{3}, L: parts()},
	}
}

// some is a datum, of right and of odd kinds, with spare room behind its lists.
func some(r *rand.Rand, most int) api.Datum {
	d := api.Datum{Kind: r.Intn(7) - 1, Text: []string{"", "a", "-12", "#t", "...", "a b", "\xff"}[r.Intn(7)], At: r.Intn(9)}
	for range r.Intn(4) {
		d.Marks = append(d.Marks, r.Intn(3))
	}
	if r.Intn(2) == 0 {
		d.Kind = api.DList
	}
	if most > 0 && (d.Kind == api.DList || r.Intn(3) == 0) {
		for range r.Intn(5) {
			d.L = append(d.L, some(r, most-1))
		}
	}
	return d
}

// each calls do with many data.
func each(do func(d api.Datum)) {
	r := rand.New(rand.NewSource(1))
	for _, d := range odd() {
		do(d)
		do(list(d, d))
	}
	for range 3000 {
		do(some(r, r.Intn(5)))
	}
	do(deep(deepest))
}

// clone is d, with its spare room, in memory of its own.
func clone(d api.Datum) api.Datum {
	room := d.L[:cap(d.L)]
	d.Marks = slices.Clone(d.Marks[:cap(d.Marks)])[:len(d.Marks)]
	if room != nil {
		all := make([]api.Datum, len(room))
		for i := range room {
			all[i] = clone(room[i])
		}
		d.L = all[:len(d.L)]
	}
	return d
}

// full is d, in memory of its own, with its spare room as parts and marks, to see what is in there.
func full(d api.Datum) api.Datum {
	room := d.L[:cap(d.L)]
	d.Marks, d.L = slices.Clone(d.Marks[:cap(d.Marks)]), nil
	for _, part := range room {
		d.L = append(d.L, full(part))
	}
	return d
}

// nodes is d and all that hang on it.
func nodes(d *api.Datum) []*api.Datum {
	all := []*api.Datum{d}
	for i := range d.L {
		all = append(all, nodes(&d.L[i])...)
	}
	return all
}

func TestTextAsWritten(t *testing.T) {
	for _, c := range []struct {
		d    api.Datum
		want string
	}{
		{list(), "()"},
		{api.Datum{Kind: api.DList, L: []api.Datum{}}, "()"},
		{integer("-12"), "-12"},
		{boolean("#f"), "#f"},
		{symbol("a"), "a"},
		{symbol("a", 1, 2), "a"},
		{symbol(""), ""},
		{list(symbol("a")), "(a)"},
		{list(symbol("a"), integer("1"), boolean("#t")), "(a 1 #t)"},
		{list(list(), list(list())), "(() (()))"},
		{list(symbol("quote"), symbol("a")), "(quote a)"},
		{list(symbol("f"), list(symbol("g", 3), integer("1")), list()), "(f (g 1) ())"},
		{list(symbol(""), symbol("")), "( )"},
		{list(symbol("a b"), symbol(" ")), "(a b  )"},
		{api.Datum{}, ""},
		{api.Datum{Kind: api.DList, Text: "no", L: []api.Datum{symbol("a")}}, "(a)"},
		{api.Datum{Kind: api.DSym, Text: "a", L: []api.Datum{symbol("b")}}, "a"},
		{api.Datum{Kind: 5, Text: "\xff\x00", L: []api.Datum{symbol("b")}}, "\xff\x00"},
		{api.Datum{Kind: 0, Text: "none", L: []api.Datum{symbol("b")}}, "none"},
		{api.Datum{Kind: -4, Text: "less", L: []api.Datum{symbol("b")}}, "less"},
	} {
		if got := datum.Text(c.d); got != c.want {
			t.Errorf("P201: Text is %q, not %q", got, c.want)
		}
	}
}

// joined is what Text must be, by texts of parts.
func joined(d api.Datum) string {
	if d.Kind != api.DList {
		return d.Text
	}
	var parts []string
	for _, part := range d.L {
		parts = append(parts, joined(part))
	}
	return "(" + strings.Join(parts, " ") + ")"
}

func TestTextOfMany(t *testing.T) {
	each(func(d api.Datum) {
		if got, want := datum.Text(d), joined(d); got != want {
			t.Fatalf("P201: Text of %+v is %q, not %q", d, got, want)
		}
	})
}

func TestSize(t *testing.T) {
	for _, c := range []struct {
		d    api.Datum
		want int
	}{
		{api.Datum{}, 1},
		{integer("12345"), 1},
		{symbol("a", 1, 2, 3), 1},
		{list(), 1},
		{list(list()), 2},
		{list(symbol("a"), integer("1")), 3},
		{list(symbol("f"), list(symbol("g"), integer("1")), list()), 6},
		{api.Datum{Kind: api.DSym, Text: "a", L: []api.Datum{list(symbol("b"))}}, 3},
		{deep(deepest), deepest + 1},
	} {
		if got := datum.Size(c.d); got != c.want {
			t.Errorf("P201: Size of %s is %d, not %d", datum.Text(c.d), got, c.want)
		}
	}
	each(func(d api.Datum) {
		if got, want := datum.Size(d), len(nodes(&d)); got != want {
			t.Fatalf("P201: Size of %+v is %d, not %d", d, got, want)
		}
	})
}

func TestIs(t *testing.T) {
	for _, c := range []struct {
		d    api.Datum
		text string
		want bool
	}{
		{symbol("a"), "a", true},
		{symbol("a", 1), "a", true},
		{symbol("..."), "...", true},
		{symbol(""), "", true},
		{api.Datum{Kind: api.DSym, Text: "a", L: []api.Datum{symbol("b")}, At: 7}, "a", true},
		{symbol("a"), "b", false},
		{symbol("a"), "A", false},
		{symbol("a"), "", false},
		{symbol("ab"), "a", false},
		{symbol("a"), "ab", false},
		{integer("1"), "1", false},
		{boolean("#t"), "#t", false},
		{list(), "", false},
		{list(), "()", false},
		{list(symbol("a")), "a", false},
		{list(symbol("a")), "(a)", false},
		{api.Datum{Kind: api.DList, Text: "a"}, "a", false},
		{api.Datum{Text: "a"}, "a", false},
		{api.Datum{Kind: 5, Text: "a"}, "a", false},
		{api.Datum{Kind: -3, Text: "a"}, "a", false},
	} {
		if got := datum.Is(c.d, c.text); got != c.want {
			t.Errorf("P201: Is(%+v, %q) is %v", c.d, c.text, got)
		}
	}
}

// checkSame asks both ways round.
func checkSame(t *testing.T, a, b api.Datum, want bool) {
	t.Helper()
	if datum.Same(a, b) != want || datum.Same(b, a) != want {
		t.Fatalf("P201: Same(%+v, %+v) is not %v", a, b, want)
	}
}

func TestSameOfSome(t *testing.T) {
	a := symbol("a", 1, 2)
	checkSame(t, a, symbol("a", 1, 2), true)
	checkSame(t, list(), api.Datum{Kind: api.DList, Marks: []int{}, L: []api.Datum{}}, true)
	checkSame(t, list(a, list(a)), list(a, list(a)), true)
	checkSame(t, integer("1"), symbol("1"), false)
	checkSame(t, boolean("#t"), boolean("#f"), false)
	checkSame(t, symbol(""), list(), false)
	for _, marks := range [][]int{nil, {1}, {2}, {2, 1}, {1, 3}, {1, 2, 2}, {0, 1, 2}} {
		checkSame(t, a, symbol("a", marks...), false)
		checkSame(t, list(list(a)), list(list(symbol("a", marks...))), false)
	}
	checkSame(t, list(integer("1"), integer("2")), list(integer("2"), integer("1")), false)
	checkSame(t, list(a), list(a, a), false)
	checkSame(t, list(), list(list()), false)
	checkSame(t, list(list(), list()), list(list(list())), false)
}

// TestSameButFor: each field but At counts, of whatever kind a datum is, and wherever it hangs.
func TestSameButFor(t *testing.T) {
	changes := []func(d *api.Datum){
		func(d *api.Datum) { d.Kind++ },
		func(d *api.Datum) { d.Text += "x" },
		func(d *api.Datum) { d.Marks = append(slices.Clone(d.Marks), 0) },
		func(d *api.Datum) { d.L = append(slices.Clone(d.L), api.Datum{}) },
		func(d *api.Datum) {
			if len(d.Marks) == 0 {
				d.Marks = []int{1}
			} else {
				d.Marks = append([]int{d.Marks[0] + 1}, d.Marks[1:]...)
			}
		},
	}
	each(func(d api.Datum) {
		c := clone(d)
		checkSame(t, d, c, true)
		all := nodes(&c)
		for i := 0; i < len(all); i += 1 + len(all)/50 {
			was := *all[i]
			for _, change := range changes {
				change(all[i])
				checkSame(t, d, c, false)
				*all[i] = was
			}
			all[i].At += 5
			checkSame(t, d, c, true)
		}
	})
}

// bare is what Plain must be.
func bare(d api.Datum) api.Datum {
	d = clone(d)
	for _, x := range nodes(&d) {
		x.Marks = nil
	}
	return d
}

// none makes empty lists none: both are the same.
func none(d api.Datum) api.Datum {
	d = clone(d)
	for _, x := range nodes(&d) {
		if len(x.Marks) == 0 {
			x.Marks = nil
		}
		if len(x.L) == 0 {
			x.L = nil
		}
	}
	return d
}

func TestPlainOfSome(t *testing.T) {
	got := datum.Plain(api.Datum{Kind: api.DList, Marks: []int{9}, At: 3, L: []api.Datum{
		{Kind: api.DSym, Text: "a", Marks: []int{1, 2}, At: 4},
		{Kind: api.DList, At: 6, L: []api.Datum{{Kind: api.DSym, Text: "b", Marks: []int{3}, At: 7}}},
	}})
	want := api.Datum{Kind: api.DList, At: 3, L: []api.Datum{
		{Kind: api.DSym, Text: "a", At: 4},
		{Kind: api.DList, At: 6, L: []api.Datum{{Kind: api.DSym, Text: "b", At: 7}}},
	}}
	if !reflect.DeepEqual(got, want) {
		t.Errorf("P201: Plain is %+v, not %+v", got, want)
	}
}

func TestPlainOfMany(t *testing.T) {
	each(func(d api.Datum) {
		got, want := datum.Plain(d), bare(d)
		if !reflect.DeepEqual(none(got), none(want)) {
			t.Fatalf("P201: Plain of %+v is %+v, not %+v", d, got, want)
		}
		if again := datum.Plain(got); !datum.Same(got, again) {
			t.Fatalf("P201: Plain of %+v is %+v", got, again)
		}
	})
}

// roomy is d, all its lists with spare room in which something stands.
func roomy(d api.Datum) api.Datum {
	d.Marks = append(append(make([]int, 0, len(d.Marks)+2), d.Marks...), 77, 78)[:len(d.Marks)]
	l := make([]api.Datum, 0, len(d.L)+1)
	for _, part := range d.L {
		l = append(l, roomy(part))
	}
	d.L = append(l, symbol("spare", 79))[:len(d.L)]
	return d
}

// spoil writes over all of d, its spare room too.
func spoil(d *api.Datum) {
	l := d.L[:cap(d.L)]
	for i := range l {
		spoil(&l[i])
		l[i] = api.Datum{Kind: 50, Text: "spoilt"}
	}
	for i := range d.Marks[:cap(d.Marks)] {
		d.Marks[:cap(d.Marks)][i] = 50
	}
}

// TestHandedInStays: what is handed in is not changed by a call, nor by what is done with its answer; nor the answer by what is done with what was handed in.
func TestHandedInStays(t *testing.T) {
	each(func(d api.Datum) {
		d = roomy(d)
		before := full(d)
		datum.Text(d)
		datum.Same(d, d)
		datum.Size(d)
		datum.Is(d, d.Text)
		first, other := datum.Plain(d), datum.Plain(d)
		if !reflect.DeepEqual(full(d), before) {
			t.Fatalf("P2: %+v was changed: %+v", before, full(d))
		}
		want := clone(first)
		spoil(&other)
		if !reflect.DeepEqual(full(d), before) || !datum.Same(first, want) {
			t.Fatalf("P2: Plain's answer shares memory with %+v, or with the next one", before)
		}
		spoil(&d)
		if !datum.Same(first, want) {
			t.Fatalf("P2: Plain's answer shares memory with %+v", before)
		}
	})
}

// TestListsApart: no two lists of Plain's answer share memory, where those handed in are one.
func TestListsApart(t *testing.T) {
	row := append(make([]api.Datum, 0, 8), symbol("a", 1), list(symbol("b", 2)))
	d := list(list(row...), list(row...), list(row[:1]...), list(row[1:]...), list(row[:0]...))
	for i := range d.L {
		got := datum.Plain(d)
		spoil(&got.L[i])
		for k := range d.L {
			if want := datum.Plain(d.L[k]); k != i && !datum.Same(got.L[k], want) {
				t.Errorf("P2: lists %d and %d share memory", i, k)
			}
		}
	}
}

// TestSameAgain: nothing is kept from call to call.
func TestSameAgain(t *testing.T) {
	type answers struct {
		text     string
		size     int
		is, same bool
		plain    api.Datum
	}
	all := func() (got []answers) {
		last := api.Datum{}
		each(func(d api.Datum) {
			got = append(got, answers{datum.Text(d), datum.Size(d), datum.Is(d, "a"), datum.Same(d, last), datum.Plain(d)})
			last = d
		})
		return got
	}
	first := all()
	for i, x := range all() {
		if !reflect.DeepEqual(x, first[i]) {
			t.Fatalf("P3: datum %d: %v, then %v", i, first[i], x)
		}
	}
}

// TestDeepAndWide: as deep as data may be, with much text at each depth, and as wide as is of use.
func TestDeepAndWide(t *testing.T) {
	d, many := symbol("x", 1), strings.Repeat("m", 1000)
	for range deepest {
		d = list(symbol(many, 1), d)
	}
	text := strings.Repeat("("+many+" ", deepest) + "x" + strings.Repeat(")", deepest)
	if datum.Text(d) != text {
		t.Error("P201: Text of a deep one")
	}
	if datum.Size(d) != 2*deepest+1 || !datum.Same(d, clone(d)) || datum.Same(d, datum.Plain(d)) || datum.Text(datum.Plain(d)) != text {
		t.Error("P201: Size, Same, Plain of a deep one")
	}
	const wide = 200000
	var parts []api.Datum
	var texts []string
	for i := range wide {
		parts = append(parts, symbol("s"+strconv.Itoa(i), i))
		texts = append(texts, "s"+strconv.Itoa(i))
	}
	d, text = list(parts...), "("+strings.Join(texts, " ")+")"
	if datum.Text(d) != text || datum.Size(d) != wide+1 || datum.Text(datum.Plain(d)) != text {
		t.Error("P201: Text, Size, Plain of a wide one")
	}
}
