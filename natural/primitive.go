package natural

import (
	"thunk/api"
	"thunk/big"
)

// primitive reckons what one takes; cons alone takes it as a function does.
func (r *reckoner) primitive(e *api.Expr, at *scope) *value {
	if e.Text == "cons" {
		return pairOf(at.argument(&e.A[0]), at.argument(&e.A[1]))
	}
	a := r.operand(e, 0, at)
	if a == nil {
		return nil
	}
	if len(e.A) == 1 {
		return r.one(e.Text, a)
	}
	b := r.operand(e, 1, at)
	if b == nil {
		return nil
	}
	return r.two(e.Text, a, b)
}

func takesNumbers(name string) bool {
	switch name {
	case "+", "-", "*", "quotient", "remainder", "<", "=":
		return true
	}
	return false
}

// operand is what a part of e comes to, which must be a number where e's primitive takes such.
func (r *reckoner) operand(e *api.Expr, i int, at *scope) *value {
	v := r.term(&e.A[i], at)
	if v != nil && v.kind != api.EInt && takesNumbers(e.Text) {
		return r.stop(api.Failed, "number")
	}
	return v
}

func (r *reckoner) one(name string, v *value) *value {
	switch name {
	case "car", "cdr":
		return r.part(name, v)
	case "error":
		return r.fault(v)
	}
	return truth(isSuch(name, v))
}

// isSuch is what one of the primitives that ask tells of v.
func isSuch(name string, v *value) bool {
	switch name {
	case "null?":
		return v.kind == api.ENil
	case "pair?":
		return v.pair != nil
	case "integer?":
		return v.kind == api.EInt
	case "symbol?":
		return v.kind == api.ESym
	}
	return v.isFalse()
}

func (r *reckoner) part(name string, v *value) *value {
	switch {
	case v.pair == nil:
		return r.stop(api.Failed, "pair")
	case name == "car":
		return r.force(v.first)
	}
	return r.force(v.second)
}

func (r *reckoner) fault(v *value) *value {
	if v.isConstant() {
		return r.stop(api.Failed, "error "+v.text)
	}
	return r.stop(api.Failed, "error")
}

func (r *reckoner) two(name string, a, b *value) *value {
	switch name {
	case "seq":
		return b
	case "eq?":
		return truth(a.isConstant() && a.constant == b.constant)
	case "<":
		return truth(big.Cmp(a.text, b.text) < 0)
	case "=":
		return truth(big.Cmp(a.text, b.text) == 0)
	case "quotient", "remainder":
		return r.divided(name, a, b)
	}
	return r.reckoned(name, a, b)
}

func (r *reckoner) divided(name string, a, b *value) *value {
	quotient, rest, is := big.Quo(a.text, b.text)
	switch {
	case !is:
		return r.stop(api.Failed, "zero")
	case name == "quotient":
		return number(quotient)
	}
	return number(rest)
}

// reckoned is the sum, what is left, or the product.
func (r *reckoner) reckoned(name string, a, b *value) *value {
	var text string
	var is bool
	switch name {
	case "+":
		text, is = big.Add(a.text, b.text)
	case "-":
		text, is = big.Sub(a.text, b.text)
	case "*":
		text, is = big.Mul(a.text, b.text)
	}
	if !is {
		return r.stop(api.Limit, "")
	}
	return number(text)
}
