package machine

import (
	"slices"

	"thunk/api"
)

// Kinds of frames: what waits for a value.
const (
	showFrame   = iota // to print it
	restFrame          // for what was printed: then comes what stands behind, a cell
	tailFrame          // to print it behind a pair's first one
	updateFrame        // to write over a thunk
	selectFrame        // to pick one of a pair: the first is 0, the second 1
	argsFrame          // to give it arguments
	termFrame          // to go on with a term, by its number, with what its slots held
	secondFrame        // to end a term, by its number, with the value of its first part
)

// push has a frame wait ahead of all others, to which it points.
func (m *machine) push(kind, number int, ptrs ...int) {
	m.stack = m.lay(object{api.TFun, []int{kind, number}}, slices.Concat([]int{m.stack}, ptrs)...)
}

// take gives a value to the frame that waits for it. Where none is left all is printed.
func (m *machine) take(v int) {
	if m.stack == hole {
		m.stop(api.Printed, m.text)
		return
	}
	nums, l := m.Nums(m.stack), m.row(m.stack)
	m.stack = l[0]
	m.resume(nums[0], nums[1], v, l[1:]...)
}

func (m *machine) resume(kind, number, v int, l ...int) {
	switch kind {
	case showFrame:
		m.show(v)
	case restFrame:
		m.push(tailFrame, 0)
		m.force(l[0])
	case tailFrame:
		m.showTail(v)
	case updateFrame:
		m.Over(l[0], v)
		m.Updated++
	case selectFrame:
		m.pick(v, number)
	case argsFrame:
		m.apply(v, l...)
	case termFrame:
		t := m.terms[number]
		m.load(t.later(), l)
		m.goOn(t, v)
	case secondFrame:
		m.second(m.terms[number].text, l[0], v)
	}
}

// pick has the first or second one of a pair come to its value.
func (m *machine) pick(v, which int) {
	if m.Tag(v) != api.TCon {
		m.stop(api.Failed, "pair")
		return
	}
	m.force(m.Ptrs(v)[which])
}
