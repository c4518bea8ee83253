package machine

import (
	"thunk/api"
)

// object is what lies in the heap, but for its pointers.
type object struct {
	tag  int
	nums []int
}

// fixed is a constant of the program, and its text.
type fixed struct {
	object
	text string
}

// The first constants, which each program has. An atom's number in the heap is its number among the constants; only symbols are behind these three.
const (
	nilAtom = iota
	falseAtom
	trueAtom
)

// key is what tells constants apart: of which kind of terms, and which text.
type key struct {
	kind int
	text string
}

// constantNumbers is of constants their numbers.
type constantNumbers map[key]int

func (c *compiler) firstConstants() {
	c.constantNumber(api.Expr{Kind: api.ENil})
	c.constantNumber(api.Expr{Kind: api.EBool, Text: "#f"})
	c.constantNumber(api.Expr{Kind: api.EBool, Text: "#t"})
}

// constantNumber is that of a constant, or of a function that was given nothing. However often it stands in the program, there is one of it.
func (c *compiler) constantNumber(e api.Expr) int {
	k := key{e.Kind, e.Text}
	number, is := c.constantNumbers[k]
	if !is {
		number = len(c.constants)
		c.constantNumbers[k] = number
		c.constants = append(c.constants, c.fixed(e, number))
	}
	return number
}

func (c *compiler) fixed(e api.Expr, number int) fixed {
	switch e.Kind {
	case api.EInt:
		return fixed{object{api.TInt, numsOf(e.Text)}, e.Text}
	case api.EVar:
		return fixed{object{api.TFun, []int{c.functionNumbers[e.Text], 0}}, ""}
	case api.ENil:
		return fixed{object{api.TAtom, []int{number}}, "()"}
	}
	return fixed{object{api.TAtom, []int{number}}, e.Text}
}

// constant is the object of a constant, which lies in the heap from when it is first asked for.
func (m *machine) constant(number int) int {
	if m.laid[number] == hole {
		m.laid[number] = m.lay(m.constants[number].object)
	}
	return m.laid[number]
}
