package run_test

import (
	"math"
	"reflect"
	"slices"
	"strings"
	"testing"

	"thunk/api"
	"thunk/lift"
	"thunk/run"
)

// span is the memory of a list, its spare room too.
type span struct{ from, to uintptr }

// spans are those of all lists in v.
func spans(all []span, v reflect.Value) []span {
	switch v.Kind() {
	case reflect.Struct:
		for i := range v.NumField() {
			all = spans(all, v.Field(i))
		}
	case reflect.Slice:
		if v.Cap() > 0 {
			all = append(all, span{v.Pointer(), v.Pointer() + uintptr(v.Cap())*v.Type().Elem().Size()})
		}
		for i := range v.Len() {
			all = spans(all, v.Index(i))
		}
	}
	return all
}

// overlap tells whether two of these have memory in common.
func overlap(all []span) bool {
	slices.SortFunc(all, func(a, b span) int { return int(int64(a.from) - int64(b.from)) })
	for i := 1; i < len(all); i++ {
		if all[i].from < all[i-1].to {
			return true
		}
	}
	return false
}

// checkNew checks that no two lists of Compile's answers share memory, those of two answers neither.
func checkNew(t *testing.T, src string) {
	t.Helper()
	p, at, e := run.Compile(src)
	again, atAgain, eAgain := run.Compile(src)
	if !reflect.DeepEqual(p, again) || at != atAgain || e != eAgain {
		t.Fatalf("P3: not the same again: %s", src)
	}
	if overlap(spans(spans(nil, reflect.ValueOf(p)), reflect.ValueOf(again))) {
		t.Fatalf("P2: lists of Compile's answer share memory: %s", src)
	}
}

// checkKept checks that a config stays as it is, and that what stands in its spare room does not count.
func checkKept(t *testing.T, src string, c api.Config) {
	t.Helper()
	roomy := c
	roomy.Gc = append(slices.Clone(c.Gc), 1, 2, 3, 4, 5)[:len(c.Gc)]
	roomy.Input = append(slices.Clone(c.Input), "spare", "1")[:len(c.Input)]
	gc, input := slices.Clone(roomy.Gc[:cap(roomy.Gc)]), slices.Clone(roomy.Input[:cap(roomy.Input)])
	want := run.Run(src, c)
	if got := run.Run(src, roomy); got != want {
		t.Fatalf("P2, P3: %v, not %v, of %s", got, want, src)
	}
	if !slices.Equal(gc, roomy.Gc[:cap(roomy.Gc)]) || !slices.Equal(input, roomy.Input[:cap(roomy.Input)]) {
		t.Fatalf("P2: what was handed in was changed: %s", src)
	}
}

// TestMemory: what is handed in stays, what is answered is new, and nothing is kept from call to call.
func TestMemory(t *testing.T) {
	m := newMaker(4)
	for i := range 600 {
		s := m.text()
		if i%3 == 0 {
			s = m.spoilt(s)
		}
		checkNew(t, s)
		checkKept(t, s, api.Config{Heap: 500 + m.Intn(20000), Fuel: m.Intn(500), Gc: m.steps(), Early: i%4 < 2, Input: m.input()})
	}
	for _, c := range append(programs(), rejected()...) {
		s := strings.Replace(c[0], "@", "", 1)
		checkNew(t, s)
		checkKept(t, s, api.Config{Heap: 5000, Fuel: 5000, Gc: upTo(9), Input: []string{"7", "-3"}})
	}
}

// TestOwn: who changes an answer changes nothing of what is answered then.
func TestOwn(t *testing.T) {
	const src = "(define (f x y) (cons x (cons y input))) (f 1)"
	p, _, _ := run.Compile(src)
	text := lift.Text(p)
	p.Sups[0].Params[0], p.Sups[0].Body.Names, p.Main.A = "spoilt", []string{"spoilt"}, nil
	if p, _, _ = run.Compile(src); lift.Text(p) != text {
		t.Errorf("P2: Compile of %s is %s, not %s", src, lift.Text(p), text)
	}
}

// TestSideBySide: calls at the same time do not touch one another.
func TestSideBySide(t *testing.T) {
	m := newMaker(5)
	var srcs []string
	for range 20 {
		srcs = append(srcs, m.text())
	}
	c := api.Config{Heap: 2000, Fuel: 2000, Gc: upTo(100), Early: true, Input: []string{"7", "-3"}}
	all := func() (l []api.Outcome) {
		for _, s := range srcs {
			l = append(l, run.Run(s, c))
		}
		return l
	}
	want := all()
	answers := make(chan []api.Outcome)
	for range 8 {
		go func() { answers <- all() }()
	}
	for range 8 {
		if got := <-answers; !slices.Equal(got, want) {
			t.Errorf("P3, P7: %v, not %v", got, want)
		}
	}
}

// TestWrongConfigs: what may not be handed in is refused, not clamped (P9); what a text is rejected for is told ahead of that; the bounds themselves are not refused.
func TestWrongConfigs(t *testing.T) {
	for _, change := range []func(c *api.Config){
		func(c *api.Config) { c.Heap = -1 }, func(c *api.Config) { c.Heap = maxHeap + 1 }, func(c *api.Config) { c.Heap = math.MaxInt }, func(c *api.Config) { c.Heap = math.MinInt },
		func(c *api.Config) { c.Fuel = -1 }, func(c *api.Config) { c.Fuel = maxFuel + 1 }, func(c *api.Config) { c.Fuel = math.MaxInt }, func(c *api.Config) { c.Fuel = math.MinInt },
		func(c *api.Config) { c.Input = []string{""} }, func(c *api.Config) { c.Input = []string{"1", "x"} }, func(c *api.Config) { c.Input = []string{"01"} }, func(c *api.Config) { c.Input = []string{"7", strings.Repeat("1", api.MaxDigits+1)} },
	} {
		c := enough("7")
		change(&c)
		if o := checkRun(t, "(car input)", c); o != (api.Outcome{}) {
			t.Errorf("P9: Run with heap %d, fuel %d, input %.10q is %v", c.Heap, c.Fuel, c.Input, o)
		}
		if o := checkRun(t, "(car", c); o != (api.Outcome{Kind: api.Rejected, At: 4, Text: "end"}) {
			t.Errorf("P1402: Run of a text that is rejected is %v", o)
		}
	}
	for _, c := range []struct {
		heap, fuel int
		gc         []int
		want       api.Outcome
	}{
		{maxHeap, maxFuel, nil, outcome("7")}, {maxHeap, maxFuel, []int{math.MaxInt, math.MinInt, -1, 0, 1}, outcome("7")},
		{0, 0, nil, api.Outcome{Kind: api.NoHeap}}, {0, maxFuel, nil, api.Outcome{Kind: api.NoHeap}}, {maxHeap, 0, nil, api.Outcome{Kind: api.NoFuel}},
	} {
		if o := checkRun(t, "(car input)", api.Config{Heap: c.heap, Fuel: c.fuel, Gc: c.gc, Input: []string{"7"}}); o != c.want {
			t.Errorf("P1402: Run with heap %d, fuel %d is %v, not %v", c.heap, c.fuel, o, c.want)
		}
	}
}

// TestBytes: T7: any bytes are answered, each alone, in pairs, and in rows.
func TestBytes(t *testing.T) {
	c := api.Config{Heap: 300, Fuel: 300, Gc: []int{1}, Input: []string{"1"}}
	signs := "()'#; \nt+-.x0ifcar\x00\xff"
	for a := range 256 {
		checkRun(t, string([]byte{byte(a)}), c)
		for _, b := range []byte(signs) {
			checkRun(t, string([]byte{byte(a), b}), c)
			checkRun(t, string([]byte{b, byte(a), b}), c)
		}
	}
	m := newMaker(6)
	words := strings.Fields("( ( ( ( ) ) ) ) ' #t #f () define (define define-syntax lambda (lambda (x) let letrec (let ((x 1)) if (if quote (quote let-syntax letrec-syntax syntax-rules (syntax-rules ... _ x y f input car + cons seq error 0 -1 12 ; %l.1 \xff")
	for range 20000 {
		s := ""
		for range m.Intn(30) {
			s += m.pick(words...) + m.pick("", " ", " ", "\n")
		}
		checkRun(t, s, c)
	}
	for range 3000 {
		b := make([]byte, m.Intn(200))
		for i := range b {
			b[i] = signs[m.Intn(len(signs))]
			if m.Intn(20) == 0 {
				b[i] = byte(m.Intn(256))
			}
		}
		checkRun(t, string(b), c)
	}
}
