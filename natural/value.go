package natural

import (
	"slices"

	"thunk/api"
)

// closed is a term, and what its names stand for.
type closed struct {
	term *api.Expr
	at   *scope
}

// cell holds a term that is to be reckoned, then what that has come to.
type cell struct {
	closed
	value *value // nil: there is none yet
	busy  bool   // its term is being reckoned, or was
}

// constant is a kind of terms, and a text.
type constant struct {
	kind int
	text string
}

// pair is two cells.
type pair struct{ first, second *cell }

// function is a body, the names that it takes, and the cells that it has been given, which are fewer.
type function struct {
	closed
	names []string
	given []*cell
}

// value is what a term comes to: one of these three, the others are left out.
type value struct {
	constant
	*pair
	*function
}

func constantOf(e *api.Expr) *value {
	c := constant{e.Kind, e.Text}
	if e.Kind == api.ENil {
		c.text = "()"
	}
	return &value{constant: c}
}

func number(text string) *value {
	return &value{constant: constant{api.EInt, text}}
}

func truth(is bool) *value {
	text := "#f"
	if is {
		text = "#t"
	}
	return &value{constant: constant{api.EBool, text}}
}

func pairOf(first, second *cell) *value {
	return &value{pair: &pair{first, second}}
}

func functionOf(e *api.Expr, at *scope) *value {
	return &value{function: &function{closed{&e.A[0], at}, e.Names, nil}}
}

// with is a function that has been given more; f stays, as others may give it something else.
func (f *function) with(cells []*cell) *value {
	return &value{function: &function{f.closed, f.names, slices.Concat(f.given, cells)}}
}

func (v *value) isConstant() bool {
	return v.constant != constant{}
}

func (v *value) isFalse() bool {
	return v.constant == constant{api.EBool, "#f"}
}

// list is a list of numbers, whose cells hold values.
func list(texts []string) *value {
	l := constantOf(&api.Expr{Kind: api.ENil})
	for _, text := range slices.Backward(texts) {
		l = pairOf(&cell{value: number(text)}, &cell{value: l})
	}
	return l
}
