package machine

import (
	"slices"

	"thunk/api"
	"thunk/big"
)

// first is what a primitive does with its first operand.
func (m *machine) first(t *term, a int) {
	switch {
	case takesNumbers(t.text) && m.Tag(a) != api.TInt:
		m.stop(api.Failed, "number")
	case len(t.parts) == 1:
		m.one(t.text, a)
	case t.text == "seq":
		m.next(t.parts[1])
	default:
		m.last(t, a)
	}
}

// last has the second operand come to its value.
func (m *machine) last(t *term, a int) {
	if b, is := m.ready(t.parts[1]); is {
		m.second(t.text, a, b)
		return
	}
	m.push(secondFrame, t.number, a)
	m.ask(t.parts[1])
}

func takesNumbers(name string) bool {
	switch name {
	case "+", "-", "*", "quotient", "remainder", "<", "=":
		return true
	}
	return false
}

func (m *machine) one(name string, a int) {
	switch name {
	case "car":
		m.pick(a, 0)
	case "cdr":
		m.pick(a, 1)
	case "error":
		m.fault(a)
	default:
		m.giveTruth(m.isSuch(name, a))
	}
}

// isSuch is what one of the primitives that ask tells of a value.
func (m *machine) isSuch(name string, a int) bool {
	switch name {
	case "null?":
		return m.isAtom(a, nilAtom)
	case "pair?":
		return m.Tag(a) == api.TCon
	case "integer?":
		return m.Tag(a) == api.TInt
	case "symbol?":
		return m.Tag(a) == api.TAtom && m.Nums(a)[0] > trueAtom
	}
	return m.isAtom(a, falseAtom)
}

// isConstant tells whether a value is a number or an atom.
func (m *machine) isConstant(a int) bool {
	return m.Tag(a) == api.TInt || m.Tag(a) == api.TAtom
}

func (m *machine) fault(a int) {
	if m.isConstant(a) {
		m.stop(api.Failed, "error "+m.plain(a))
		return
	}
	m.stop(api.Failed, "error")
}

// second is what a primitive comes to with both its operands.
func (m *machine) second(name string, a, b int) {
	switch {
	case name == "eq?":
		m.giveTruth(m.isConstant(a) && m.Tag(a) == m.Tag(b) && slices.Equal(m.Nums(a), m.Nums(b)))
	case m.Tag(b) != api.TInt:
		m.stop(api.Failed, "number")
	default:
		m.numbers(name, textOf(m.Nums(a)), textOf(m.Nums(b)))
	}
}

func (m *machine) numbers(name, a, b string) {
	switch name {
	case "<":
		m.giveTruth(big.Cmp(a, b) < 0)
	case "=":
		m.giveTruth(big.Cmp(a, b) == 0)
	case "+":
		m.giveNumber(big.Add(a, b))
	case "-":
		m.giveNumber(big.Sub(a, b))
	case "*":
		m.giveNumber(big.Mul(a, b))
	default:
		m.divided(name, a, b)
	}
}

func (m *machine) divided(name, a, b string) {
	quotient, rest, is := big.Quo(a, b)
	switch {
	case !is:
		m.stop(api.Failed, "zero")
	case name == "quotient":
		m.giveNumber(quotient, true)
	default:
		m.giveNumber(rest, true)
	}
}

// giveNumber gives a number, if it has not too many digits.
func (m *machine) giveNumber(text string, is bool) {
	if !is {
		m.stop(api.Limit, "")
		return
	}
	m.give(m.lay(object{api.TInt, numsOf(text)}))
}

func (m *machine) giveTruth(is bool) {
	if is {
		m.give(m.constant(trueAtom))
		return
	}
	m.give(m.constant(falseAtom))
}
