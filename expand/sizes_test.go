package expand_test

import (
	"math/rand"
	"runtime"
	"strings"
	"testing"

	"thunk/api"
	"thunk/datum"
	"thunk/expand"
	"thunk/rules"
)

// datum is any, of a Size of 4 at most.
func (m maker) datum() api.Datum {
	return []api.Datum{integer("1"), symbol("b"), list(), list(integer("1")), list(list(symbol("c")), integer("2"))}[m.Intn(5)]
}

// rowOf is a list of at most four such.
func (m maker) rowOf(made func() api.Datum) api.Datum {
	d := list()
	for range m.Intn(5) {
		d.L = append(d.L, made())
	}
	return d
}

// pieces are parts of templates for the pattern (p a (b ...) (c ...) ((d (e ...)) ...) (((f ...) ...) ...)).
func (m maker) pieces() (s string) {
	for range 1 + m.Intn(5) {
		s += m.pick("a", "1", "z", "()", "b ...", "c ...", "(b c) ...", "(b a 1) ...", "(a (b b z)) ...", "d ...", "(d e ...) ...", "(e ...) ...", "((e d) ...) ...", "(b (e ...)) ...", "((f ...) ...) ...", "(((f a) ... 1) ... (f ...) ...) ...", "(((e f) ...) ...) ...", "(c ((f f) ...) ...) ...", "((f ... z) ...) ...") + " "
	}
	return s
}

// checkSize holds what Expand says of a Size against that of what rules.Fill makes: with a datum p that fills it up to 20000, and with one that is one more.
func checkSize(t *testing.T, template string, use api.Datum) (filled bool) {
	t.Helper()
	const head = "p a (b ...) (c ...) ((d (e ...)) ...) (((f ...) ...) ...)"
	l := parse("(define-syntax m (syntax-rules () ((_ " + head + ") (quote (p " + template + "))) ((_ x ...) 7))) (m)")
	pattern := parse("(" + head + ")")[0]
	bound, is := rules.Match(nil, pattern, use)
	if !is || rules.Check(nil, pattern, parse("(p " + template + ")")[0]) != api.OK {
		return false
	}
	d, is := rules.Fill(parse("(quote (p " + template + "))")[0], bound, 1)
	for more, want := range []api.Errno{api.ErrDeep, api.ErrLimit} {
		p := list()
		for range 20000 - datum.Size(d) + more {
			p.L = append(p.L, integer("1"))
		}
		l[1].L = append([]api.Datum{symbol("m"), p}, use.L[1:]...)
		if !is {
			want = api.OK
		}
		if e, _, err := expand.Expand(l); err != want || !is && e.Text != "7" {
			t.Fatalf("P602: filled %v, %d more: %v of (p %s) with %s", is, more, err, template, datum.Text(use))
		}
	}
	return is
}

// TestManySizes: of rows of all depths, side by side and in one another, some not as long as others.
func TestManySizes(t *testing.T) {
	m := maker{rand.New(rand.NewSource(7)), 100}
	count := [2]int{}
	for range 250 {
		row := func() api.Datum { return m.rowOf(m.datum) }
		rows := func() api.Datum { return m.rowOf(row) }
		pair := func() api.Datum { return list(m.datum(), row()) }
		use := list(list(), m.datum(), row(), row(), m.rowOf(pair), m.rowOf(rows))
		if checkSize(t, m.pieces(), use) {
			count[1]++
		} else {
			count[0]++
		}
	}
	if count[0] < 25 || count[1] < 25 {
		t.Errorf("not filled, filled: %d", count)
	}
}

// TestSizesTold: of a row that a template has again and again no more is made than is handed in, neither where the Size is too great nor where rows are not as long.
func TestSizesTold(t *testing.T) {
	row := list()
	for range 19000 {
		row.L = append(row.L, integer("1"))
	}
	for i, template := range []string{strings.Repeat("x ... ", 1000), "((" + strings.Repeat("x ", 2000) + ") ...)", strings.Repeat("(x x) ... ", 600) + "(x y) ..."} {
		l := parse("(define-syntax m (syntax-rules () ((_ (x ...) (y ...)) (" + template + ")) ((_ x y) 7))) (m)")
		l[1].L = append(l[1].L, row, row)
		want, wantAt := api.ErrLimit, l[1].At
		if i == 2 {
			l[1].L[2] = list(row.L[1:]...)
			want, wantAt = api.OK, 0
		}
		var before, behind runtime.MemStats
		runtime.ReadMemStats(&before)
		_, at, err := expand.Expand(l)
		runtime.ReadMemStats(&behind)
		if made := (behind.TotalAlloc - before.TotalAlloc) >> 20; err != want || at != wantAt || made > 200 {
			t.Errorf("P602: %d: %v at %d, %d MB were made", i, err, at, made)
		}
	}
}
