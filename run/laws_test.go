package run_test

import (
	"strings"
	"testing"

	"thunk/api"
)

// tally counts outcomes.
type tally map[string]int

func (c tally) count(o api.Outcome) {
	what := map[int]string{api.Printed: "printed", api.Loop: "loop", api.NoFuel: "fuel", api.NoHeap: "heap", api.Limit: "limit"}[o.Kind]
	if o.Kind == api.Failed || o.Kind == api.Rejected {
		what = o.Text[:min(len(o.Text), 4)]
	}
	c[what]++
}

func (c tally) check(t *testing.T, words string, least int) {
	t.Helper()
	for _, what := range strings.Fields(words) {
		if c[what] < least {
			t.Errorf("only %d of %s: %v", c[what], what, c)
		}
	}
}

// steps are numbers of steps, some of which may not be, or are there twice.
func (m maker) steps() (l []int) {
	switch m.Intn(4) {
	case 0:
		return nil
	case 1:
		return upTo(m.Intn(300))
	}
	for range m.Intn(30) {
		l = append(l, m.Intn(1+m.Intn(500))-3)
	}
	return l
}

// config is one for a text of that meaning, mostly with enough of all and no more.
func (m maker) config(n meaning, input []string) api.Config {
	c := api.Config{Heap: min(n.enoughHeap(), maxHeap), Fuel: min(n.enoughFuel(), 300000), Gc: m.steps(), Early: m.Intn(2) == 0, Input: input}
	if n.o.Kind == api.NoFuel {
		c.Fuel = 5000
	}
	switch m.Intn(6) {
	case 0:
		c.Heap = m.Intn(20 + m.Intn(500))
	case 1:
		c.Heap = m.Intn(3000)
	case 2:
		c.Fuel = m.Intn(1 + m.Intn(500))
	}
	return c
}

// checkText holds runs of s against what it means.
func checkText(t *testing.T, m maker, s string, input []string, count tally) {
	t.Helper()
	n := meaningOf(t, s, input)
	if n.o.Kind == api.NoFuel && m.Intn(10) > 0 {
		return
	}
	for range 3 {
		count.count(n.run(t, m.config(n, input)))
	}
}

// TestMany: T1, T3, T4, T5: texts of all kinds, with much and with little of all.
func TestMany(t *testing.T) {
	m, count := newMaker(1), tally{}
	for range 1200 {
		checkText(t, m, m.text(), m.input(), count)
	}
	count.check(t, "printed loop fuel heap limit appl numb zero pair erro form", 10)
}

// TestSpoilt: T7: texts with faults of all kinds, most of them told where they are read.
func TestSpoilt(t *testing.T) {
	m, count := newMaker(2), tally{}
	for range 6000 {
		s := m.text()
		if m.Intn(2) == 0 {
			s = s[len(forms+mapFold+takeFrom):]
		}
		checkText(t, m, m.spoilt(s), m.input(), count)
	}
	count.check(t, "printed toke clos end form name matc", 20)
}

// FuzzRun may be given more time by hand: go test -fuzz FuzzRun ./run
func FuzzRun(f *testing.F) {
	m := newMaker(3)
	for range 20 {
		f.Add(m.text(), int64(m.Intn(100)))
	}
	for _, c := range append(programs(), rejected()...) {
		f.Add(strings.Replace(c[0], "@", "", 1), int64(7))
	}
	f.Fuzz(func(t *testing.T, s string, seed int64) {
		m := newMaker(seed)
		checkText(t, m, s, m.input(), tally{})
	})
}
