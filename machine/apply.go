package machine

import (
	"slices"

	"thunk/api"
)

// mostWaiting is how many arguments wait in one frame: what a function leaves of very many is not to be written anew each time.
const mostWaiting = 50

// application applies what the first part of t comes to.
func (m *machine) application(t *term) {
	f, args := t.parts[0], m.atoms(t.parts[1:]...)
	if v, is := m.ready(f); is {
		m.apply(v, args...)
		return
	}
	m.leave(args...)
	m.ask(f)
}

// leave has arguments wait for the function that they are for.
func (m *machine) leave(args ...int) {
	for len(args) > 0 {
		start := (len(args) - 1) / mostWaiting * mostWaiting
		m.push(argsFrame, 0, args[start:]...)
		args = args[:start]
	}
}

// apply gives arguments to a value. Those that its function does not take wait for what that comes to.
func (m *machine) apply(v int, args ...int) {
	if m.Tag(v) != api.TFun {
		m.stop(api.Failed, "apply")
		return
	}
	number, given := m.callee(v)
	open := m.functions[number].takes - given
	if len(args) < open {
		m.give(m.lay(object{api.TFun, []int{number, given + len(args)}}, slices.Concat([]int{v}, args)...))
		return
	}
	m.leave(args[open:]...)
	m.enterFunction(number, slices.Concat(m.given(v), args[:open])...)
}

// callee is which function that is, and how many arguments it was given. An object has the last ones of them, and points to one that was given the others, as that may be given something else, too.
func (m *machine) callee(v int) (number, given int) {
	nums := m.Nums(v)
	return nums[0], nums[1]
}

// given are the arguments that a function was given, in order. The last ones are found first.
func (m *machine) given(v int) []int {
	_, end := m.callee(v)
	args := make([]int, end)
	for end > 0 {
		l := m.row(v)
		v = l[0]
		end -= copy(args[end-len(l)+1:end], l[1:])
	}
	return args
}

// enterFunction goes on with a function's body. Its arguments lie where those may that are asked for again, if words lack: so they are left as they are then.
func (m *machine) enterFunction(number int, args ...int) {
	if m.lacks {
		return
	}
	copy(m.slots, args)
	m.next(m.functions[number].body)
}
