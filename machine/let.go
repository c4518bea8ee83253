package machine

import (
	"slices"

	"thunk/api"
)

// let makes what a let binds: first all of it, then what it points to, as that may be any of it.
func (m *machine) let(t *term) {
	last := len(t.parts) - 1
	for i, part := range t.parts[:last] {
		m.slots[t.place+i] = m.shell(t, part)
	}
	if m.lacks {
		return
	}
	for i, part := range t.parts[:last] {
		if at := m.slots[t.place+i]; !t.isThere(part) {
			m.fill(at, m.pointers(part, at)...)
		}
	}
	m.next(t.parts[last])
}

// isThere tells whether a value of the let t is something that lies somewhere already. What the let itself binds does not.
func (t *term) isThere(part *term) bool {
	return part.isAtom() && (part.kind != variable || !t.bindsSlot(part.place))
}

// shell is what a name of the let t is bound to. What it points to is not known yet: it is the hole.
func (m *machine) shell(t, part *term) int {
	switch {
	case t.isThere(part):
		return m.atom(part)
	case part.kind == variable:
		return m.lay(object{tag: api.TInd}, hole)
	case part.kind == pairing:
		return m.lay(object{tag: api.TCon}, hole, hole)
	}
	m.Thunks++
	if part.isSelection() {
		return m.lay(object{api.TSel, []int{part.selects()}}, hole)
	}
	holes := slices.Repeat([]int{hole}, max(1, len(part.free())))
	return m.lay(object{api.TThunk, []int{part.number}}, holes...)
}

// pointers are those of what lies at an address, for a value of a let. A thunk that needs nothing points to itself, as one that points to the hole is being reckoned.
func (m *machine) pointers(part *term, at int) []int {
	switch {
	case part.kind == variable:
		return m.atoms(part)
	case part.kind == pairing, part.isSelection():
		return m.atoms(part.parts...)
	case len(part.free()) == 0:
		return []int{at}
	}
	return m.values(part.free()...)
}
