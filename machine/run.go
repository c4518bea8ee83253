package machine

import (
	"slices"

	"thunk/api"
	"thunk/gc"
	"thunk/heap"
)

const (
	// deep is how deep a collection looks behind what picks one of a pair: as deep as may be.
	deep = 20
	// leastFree is the part of all words that must be free behind a collection that was made because words lacked: else ever more collections would be made for ever less.
	leastFree = 32
)

// What a machine does next.
const (
	reckoning = iota // the term
	forcing          // at: what may have to be reckoned
	giving           // at: a value
)

// state is all that a turn may change, but for the heap and the slots.
type state struct {
	Stats
	outcome api.Outcome
	doing   int
	term    *term
	at      int
	stack   int
	text    string // what was printed
}

// machine reduces a program's graphs. Each turn does one thing, and leaves what comes next: so none stands within another, and all that waits lies in the heap.
type machine struct {
	program
	store
	state
	laid  []int // where the program's constants lie; the hole: nowhere yet
	slots []int
	input []string
}

func newMachine(p program, c api.Config) *machine {
	m := &machine{program: p, store: store{Heap: heap.New(c.Heap)}, input: c.Input}
	m.laid, m.slots = make([]int, len(p.constants)), make([]int, p.width)
	m.lay(object{tag: api.TAtom})
	m.push(showFrame, 0)
	m.next(p.main)
	if m.lacks {
		m.stop(api.NoHeap, "")
	}
	return m
}

// run makes turns till there is an outcome. A turn that reckons a term is a step; what is given on, or printed, is none: so there are no more steps than it takes to find out what the program means, but for a few.
func (m *machine) run(fuel int, steps ...int) {
	due := map[int]struct{}{}
	for _, step := range steps {
		due[step] = struct{}{}
	}
	for m.outcome.Kind == 0 {
		if m.doing != reckoning {
			m.turn()
			continue
		}
		if m.Steps == fuel {
			m.stop(api.NoFuel, "")
			break
		}
		m.Steps++
		m.turn()
		if _, is := due[m.Steps]; is {
			m.collect()
		}
	}
	m.Stats.Words = max(m.Stats.Words, m.Used())
}

// turn does what comes next; where words lack, behind a collection.
func (m *machine) turn() {
	if m.done() {
		return
	}
	m.collect()
	if !m.isRoomy() || !m.done() {
		m.stop(api.NoHeap, "")
	}
}

// done tells whether there were the words for what comes next. If not, it is as if nothing had been done: so what it does to things that are there already it does when it has all its words.
func (m *machine) done() bool {
	before := m.state
	m.do()
	if m.lacks {
		m.state, m.lacks = before, false
		return false
	}
	return true
}

func (m *machine) isRoomy() bool {
	return m.Heap.Words()-m.Used() >= m.Heap.Words()/leastFree
}

func (m *machine) do() {
	switch m.doing {
	case reckoning:
		m.reckon(m.term)
	case forcing:
		m.reach(m.Follow(m.at))
	case giving:
		m.take(m.at)
	}
}

func (m *machine) next(t *term) {
	m.doing, m.term, m.at = reckoning, t, hole
}

func (m *machine) force(at int) {
	m.doing, m.at = forcing, at
}

func (m *machine) give(at int) {
	m.doing, m.at = giving, at
}

func (m *machine) stop(kind int, text string) {
	m.outcome = api.Outcome{Kind: kind, Text: text}
}

// collect leaves what can still be asked for: by what is done next, and by what waits.
func (m *machine) collect() {
	m.Stats.Words = max(m.Stats.Words, m.Used())
	m.Collections++
	var slots []int
	if m.doing == reckoning {
		slots = slotsOf(m.term)
	}
	to, at, _ := gc.Collect(m.Heap, slices.Concat([]int{hole, m.at, m.stack}, m.laid, m.values(slots...)), deep)
	m.Heap, m.at, m.stack = to, at[1], at[2]
	m.load(slots, at[3+copy(m.laid, at[3:]):])
}

// values are what lies in slots.
func (m *machine) values(slots ...int) []int {
	l := make([]int, len(slots))
	for i, slot := range slots {
		l[i] = m.slots[slot]
	}
	return l
}

func (m *machine) load(slots, values []int) {
	for i, slot := range slots {
		m.slots[slot] = values[i]
	}
}
