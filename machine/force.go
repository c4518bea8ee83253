package machine

import (
	"thunk/api"
)

// unread stands in a thunk where the number of its term does: it is what there is to be read from a place on. Much may be read of which little is used, so it is laid out as it is asked for. Nothing of the program is reckoned for that: such a thunk does not count.
const unread = -1

// reach has what lies at an address, behind all that only leads on, come to its value. If it leads on to itself, there is nothing behind.
func (m *machine) reach(at int) {
	switch m.Tag(at) {
	case api.TThunk:
		m.thunk(at)
	case api.TSel:
		m.selection(at)
	case api.TInt, api.TCon, api.TFun, api.TAtom:
		m.give(at)
	default:
		m.stop(api.Loop, "")
	}
}

func (m *machine) thunk(at int) {
	nums, needs := m.Nums(at), m.row(at)
	switch {
	case nums[0] == unread:
		m.read(at, nums[1])
	case needs[0] == hole:
		m.stop(api.Loop, "")
	default:
		m.enter(at, m.terms[nums[0]], needs)
	}
}

// enter has a thunk's term reckoned.
func (m *machine) enter(at int, t *term, needs []int) {
	m.push(updateFrame, 0, at)
	if m.lacks {
		return
	}
	m.mark(at)
	m.load(t.free(), needs)
	m.next(t)
}

// selection has the pair reckoned of which one is picked.
func (m *machine) selection(at int) {
	pair := m.Ptrs(at)[0]
	if pair == hole {
		m.stop(api.Loop, "")
		return
	}
	m.push(updateFrame, 0, at)
	m.push(selectFrame, m.Nums(at)[0])
	if m.lacks {
		return
	}
	m.mark(at)
	m.force(pair)
}

// mark tells that a thunk is being reckoned. It needs nothing from now on, and so keeps nothing.
func (m *machine) mark(at int) {
	m.Entered++
	for i := range m.Ptrs(at) {
		m.Set(at, i, hole)
	}
}

// read lays out one number more, or the end.
func (m *machine) read(at, place int) {
	var v int
	if place == len(m.input) {
		v = m.constant(nilAtom)
	} else {
		number := m.lay(object{api.TInt, numsOf(m.input[place])})
		rest := m.lay(object{api.TThunk, []int{unread, place + 1}})
		v = m.lay(object{tag: api.TCon}, number, rest)
	}
	if m.lacks {
		return
	}
	m.Over(at, v)
	m.give(v)
}
