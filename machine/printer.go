package machine

import (
	"thunk/api"
)

func (m *machine) put(text string) {
	if len(m.text)+len(text) > api.MaxText {
		m.stop(api.Limit, "")
		return
	}
	m.text += text
}

// show prints a value; of a pair what stands ahead of its first one, which is to be printed next.
func (m *machine) show(v int) {
	if m.Tag(v) == api.TCon {
		m.showPair("(", v)
		return
	}
	m.put(m.plain(v))
	m.give(v)
}

func (m *machine) showPair(ahead string, v int) {
	cells := m.Ptrs(v)
	m.push(restFrame, 0, cells[1])
	m.push(showFrame, 0)
	m.put(ahead)
	m.force(cells[0])
}

// showTail prints what stands behind a pair's first one.
func (m *machine) showTail(v int) {
	switch {
	case m.Tag(v) == api.TCon:
		m.showPair(" ", v)
		return
	case m.isAtom(v, nilAtom):
		m.put(")")
	default:
		m.put(" . " + m.plain(v) + ")")
	}
	m.give(v)
}

// plain is the text of a value that is no pair.
func (m *machine) plain(v int) string {
	switch m.Tag(v) {
	case api.TInt:
		return textOf(m.Nums(v))
	case api.TFun:
		return "#<function>"
	}
	return m.constants[m.Nums(v)[0]].text
}
