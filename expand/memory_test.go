package expand_test

import (
	"math/rand"
	"reflect"
	"slices"
	"strconv"
	"strings"
	"testing"

	"thunk/api"
	"thunk/core"
	"thunk/expand"
	"thunk/read"
)

// span is the memory of a list, its spare room too.
type span struct{ from, to uintptr }

// spans are those of all lists in v.
func spans(all []span, v reflect.Value) []span {
	switch v.Kind() {
	case reflect.Struct:
		for i := range v.NumField() {
			all = spans(all, v.Field(i))
		}
	case reflect.Slice:
		if v.Cap() > 0 {
			all = append(all, span{v.Pointer(), v.Pointer() + uintptr(v.Cap())*v.Type().Elem().Size()})
		}
		for i := range v.Len() {
			all = spans(all, v.Index(i))
		}
	}
	return all
}

// overlap tells whether two of these have memory in common.
func overlap(all []span) bool {
	slices.SortFunc(all, func(a, b span) int { return int(int64(a.from) - int64(b.from)) })
	for i := 1; i < len(all); i++ {
		if all[i].from < all[i-1].to {
			return true
		}
	}
	return false
}

// dump writes all of v, what stands in spare room too.
func dump(s *strings.Builder, v reflect.Value) {
	switch v.Kind() {
	case reflect.Struct:
		for i := range v.NumField() {
			dump(s, v.Field(i))
		}
	case reflect.Slice:
		s.WriteString("[" + strconv.Itoa(v.Len()) + ":")
		for i := range v.Cap() {
			dump(s, v.Slice(0, v.Cap()).Index(i))
		}
		s.WriteString("]")
	case reflect.String:
		s.WriteString(strconv.Quote(v.String()))
	case reflect.Int:
		s.WriteString(strconv.FormatInt(v.Int(), 10) + ",")
	}
}

func dumpOf(v any) string {
	var s strings.Builder
	dump(&s, reflect.ValueOf(v))
	return s.String()
}

// empty tells whether nothing stands in the spare room of any list in v.
func empty(v reflect.Value) bool {
	switch v.Kind() {
	case reflect.Struct:
		for i := range v.NumField() {
			if !empty(v.Field(i)) {
				return false
			}
		}
	case reflect.Slice:
		for i := range v.Cap() {
			x := v.Slice(0, v.Cap()).Index(i)
			if i < v.Len() && !empty(x) || i >= v.Len() && !x.IsZero() {
				return false
			}
		}
	}
	return true
}

// roomy is l in memory of its own, something in the spare room of each list.
func roomy(l []api.Datum) []api.Datum {
	made := make([]api.Datum, 0, len(l)+2)
	for _, d := range l {
		d.Marks = append(append([]int{}, d.Marks...), 1, 2)[:len(d.Marks)]
		d.L = roomy(d.L)
		made = append(made, d)
	}
	return append(made, symbol("spare", 1), symbol("..."))[:len(l)]
}

func told(e api.Expr, at int, err api.Errno) string {
	return core.Text(e) + " " + strconv.Itoa(at) + " " + err.Error()
}

// TestMemory: what is handed in stays as it is, what stands in its spare room does not count, and an answer is new.
func TestMemory(t *testing.T) {
	m := maker{rand.New(rand.NewSource(3)), 100}
	for range 3000 {
		s := m.text()
		l, _, fault := read.Read(s)
		if fault != api.OK {
			continue
		}
		want := told(expand.Expand(l))
		l = roomy(l)
		before := dumpOf(l)
		e, at, err := expand.Expand(l)
		if told(e, at, err) != want {
			t.Fatalf("P2: %s: %s, with spare room %s", s, want, told(e, at, err))
		}
		if dumpOf(l) != before {
			t.Fatalf("P2: %s was changed", s)
		}
		if overlap(append(spans(nil, reflect.ValueOf(e)), spans(nil, reflect.ValueOf(l))...)) || !empty(reflect.ValueOf(e)) {
			t.Fatalf("P2: %s: memory is shared, or spare room full", s)
		}
	}
}

// TestSameAgain: nothing is kept from call to call.
func TestSameAgain(t *testing.T) {
	all := func() (got []string) {
		m := maker{rand.New(rand.NewSource(4)), 100}
		for range 1000 {
			if l, _, fault := read.Read(m.text()); fault == api.OK {
				got = append(got, told(expand.Expand(l)))
			}
		}
		return got
	}
	if first := all(); !slices.Equal(first, all()) {
		t.Fatal("P3: not the same again")
	}
}

// wild is l, some of it spoilt: of any kind, with marks, cut, or what stands elsewhere.
func (m maker) wild(l []api.Datum) {
	for i := range l {
		m.wild(l[i].L)
		if m.Intn(m.spoil) > 0 {
			continue
		}
		switch d := &l[i]; m.Intn(7) {
		case 0:
			d.Kind = m.Intn(8) - 2
		case 1:
			d.Text = m.pick("", "define", "x", "-0", "\xff", "...", "%p.1", "input")
		case 2:
			d.Marks = []int{m.Intn(6) - 1, m.Intn(6)}[m.Intn(2):]
		case 3:
			d.At = m.Intn(9) - 4
		case 4:
			d.L = d.L[:m.Intn(len(d.L)+1)]
		case 5:
			d.L = append(slices.Clone(d.L), roomy(l[:i+1])...)
		case 6:
			*d = roomy(l)[m.Intn(len(l))]
		}
	}
}

// TestWild: whatever is handed in, the call ends, changes nothing, and answers the same again.
func TestWild(t *testing.T) {
	m := maker{rand.New(rand.NewSource(5)), 100}
	for range 5000 {
		l, _, fault := read.Read(m.text())
		if fault != api.OK {
			continue
		}
		l = roomy(l)
		m.wild(l)
		before := dumpOf(l)
		first := told(expand.Expand(l))
		if told(expand.Expand(l)) != first || dumpOf(l) != before {
			t.Fatalf("P2, P3: %+v", l)
		}
	}
}

const deepest = 2000 // as deep as data that are handed in may hang on one another

// TestDeepData: P1: data that hang on one another as deep as they may.
func TestDeepData(t *testing.T) {
	for _, around := range []func(d api.Datum) api.Datum{
		func(d api.Datum) api.Datum { return list(d) },
		func(d api.Datum) api.Datum { return list(symbol("car"), d) },
		func(d api.Datum) api.Datum { return list(symbol("quote"), d) },
		func(d api.Datum) api.Datum { return list(symbol("m"), d) },
		func(d api.Datum) api.Datum { return list(symbol("define"), symbol("x"), d) },
		func(d api.Datum) api.Datum { return list(symbol("lambda"), d, integer("1")) },
		func(d api.Datum) api.Datum { return list(symbol("lambda"), list(symbol("x")), d) },
		func(d api.Datum) api.Datum {
			return list(symbol("let"), list(list(symbol("x"), integer("1"))), d)
		},
		func(d api.Datum) api.Datum {
			return list(symbol("let-syntax"), list(list(symbol("n"), list(symbol("syntax-rules"), list(), list(list(symbol("n")), integer("1"))))), d)
		},
		func(d api.Datum) api.Datum { return api.Datum{Kind: 9, L: []api.Datum{d}} },
	} {
		d := integer("7")
		for n := range deepest - 2 {
			d = around(d)
			d.At = deepest - n
		}
		for _, rules := range []string{"((_ x) x)", "((_ (x ...)) (x ...))", "((_ (((x ...) ...) ...)) 1)"} {
			l := append(parse("(define-syntax m (syntax-rules () "+rules+"))"), d)
			told(expand.Expand(l))
			l[1] = list(symbol("m"), d)
			told(expand.Expand(l))
			l[0].L[2].L[2].L[1] = d
			l[1] = list(symbol("m"), integer("1"))
			told(expand.Expand(l))
			l[0].L[2] = d
			told(expand.Expand(l))
		}
	}
	// A term within 300 others is told where it stands, where no rule brought it.
	d := integer("7")
	for n := range 299 {
		d = list(symbol("car"), d)
		d.At = 299 - n
	}
	if e, _, err := expand.Expand([]api.Datum{d}); err != api.OK || core.Size(e) != 300 {
		t.Errorf("P602: within 299 others: %v", err)
	}
	d = list(symbol("car"), d)
	at := 0
	for x := &d; len(x.L) > 0; x = &x.L[1] {
		x.At, at = at, at+5
		x.L[1].At = at
	}
	if _, got, err := expand.Expand([]api.Datum{d}); err != api.ErrDeep || got != 1500 {
		t.Errorf("P602: within 300 others: %v at %d", err, got)
	}
}

// FuzzText: any text's data have the one term, or the one error.
func FuzzText(f *testing.F) {
	m := maker{rand.New(rand.NewSource(6)), 40}
	for range 50 {
		f.Add(m.text())
	}
	f.Fuzz(func(t *testing.T, s string) {
		if l, _, fault := read.Read(s); fault == api.OK {
			checkSlow(t, s, l)
		}
	})
}
