package machine

import (
	"thunk/api"
)

// reckon has t come to its value, as far as that goes in one turn.
func (m *machine) reckon(t *term) {
	switch t.kind {
	case constant, variable, reading:
		m.force(m.atom(t))
	case application:
		m.application(t)
	case lets:
		m.let(t)
	case pairing:
		m.give(m.lay(object{tag: api.TCon}, m.atoms(t.parts...)...))
	default:
		m.begin(t)
	}
}

// atom is where an atom lies. What is read is laid anew whenever the program names it, so that what it has left behind is not kept.
func (m *machine) atom(t *term) int {
	switch t.kind {
	case constant:
		return m.constant(t.place)
	case variable:
		return m.slots[t.place]
	}
	return m.lay(object{api.TThunk, []int{unread, 0}})
}

func (m *machine) atoms(l ...*term) []int {
	made := make([]int, len(l))
	for i, t := range l {
		made[i] = m.atom(t)
	}
	return made
}

// ready is the value of an atom, if it is there: then nothing need wait for it.
func (m *machine) ready(t *term) (at int, is bool) {
	if !t.isAtom() {
		return hole, false
	}
	at = m.Follow(m.atom(t))
	return at, m.isValue(at) && !m.lacks
}

// begin has the first part of t come to its value, then t goes on.
func (m *machine) begin(t *term) {
	if v, is := m.ready(t.parts[0]); is {
		m.goOn(t, v)
		return
	}
	m.push(termFrame, t.number, m.values(t.later()...)...)
	m.ask(t.parts[0])
}

// ask has a part come to its value. An atom is forced at once, without a step more: what is there already would save that, and so a collection, that leaves out what only leads there, would tell.
func (m *machine) ask(part *term) {
	if part.isAtom() {
		m.force(m.atom(part))
		return
	}
	m.next(part)
}

// goOn is what t does with the value of its first part.
func (m *machine) goOn(t *term, v int) {
	switch t.kind {
	case choice:
		m.choose(t, v)
	case outright:
		m.slots[t.place] = v
		m.next(t.parts[1])
	case primitive:
		m.first(t, v)
	}
}

func (m *machine) choose(t *term, v int) {
	if m.isAtom(v, falseAtom) {
		m.next(t.parts[2])
		return
	}
	m.next(t.parts[1])
}
