package natural_test

import (
	lib "math/big"
	"slices"
	"strings"

	"thunk/api"
)

// slowCell holds a term, is being reckoned, or holds a value.
type slowCell struct {
	e    api.Expr
	at   map[string]*slowCell
	v    *slowValue
	busy bool
}

// slowValue is of a kind by its word; a function has its term, and what it has been given.
type slowValue struct {
	kind, text string
	cells      []*slowCell
	e          api.Expr
	at         map[string]*slowCell
}

// slow reckons terms by the words of the promises, one by one: each call does one thing, and leaves what comes next in todo, so that none stands within another. It is told what is to be done with a value; where there is none, that is never done.
type slow struct {
	fuel, steps, uses int
	again             bool // each cell is reckoned again each time: by name, not by need
	todo              func()
	text              string
	o                 api.Outcome
}

type then func(v *slowValue)

func (s *slow) stop(kind int, text string) { s.o = api.Outcome{Kind: kind, Text: text} }

func (s *slow) term(e api.Expr, at map[string]*slowCell, k then) {
	s.todo = func() {
		s.steps++
		if s.steps > s.fuel {
			s.stop(api.NoFuel, "")
			return
		}
		s.reckon(e, at, k)
	}
}

func slowConstant(e api.Expr) *slowValue {
	switch e.Kind {
	case api.EInt:
		return &slowValue{kind: "number", text: e.Text}
	case api.EBool:
		return &slowValue{kind: "truth", text: e.Text}
	case api.ENil:
		return &slowValue{kind: "nil", text: "()"}
	case api.ESym:
		return &slowValue{kind: "symbol", text: e.Text}
	}
	return nil
}

func (s *slow) reckon(e api.Expr, at map[string]*slowCell, k then) {
	switch e.Kind {
	case api.EVar:
		s.force(at[e.Text], k)
	case api.ELam:
		k(&slowValue{kind: "function", e: e, at: at})
	case api.EApp:
		s.term(e.A[0], at, func(f *slowValue) { s.apply(f, slowCells(e.A[1:], at), k) })
	case api.EIf:
		s.term(e.A[0], at, func(v *slowValue) {
			if v.kind == "truth" && v.text == "#f" {
				s.term(e.A[2], at, k)
			} else {
				s.term(e.A[1], at, k)
			}
		})
	case api.ELet:
		cells := []*slowCell{}
		for i := range e.Names {
			cells = append(cells, &slowCell{e: e.A[i]})
		}
		at = slowNames(at, e.Names, cells)
		for _, c := range cells {
			c.at = at
		}
		s.term(e.A[len(e.A)-1], at, k)
	case api.EPrim:
		s.primitive(e, at, k)
	default:
		k(slowConstant(e))
	}
}

func slowNames(at map[string]*slowCell, names []string, cells []*slowCell) map[string]*slowCell {
	all := map[string]*slowCell{}
	for name, c := range at {
		all[name] = c
	}
	for i, name := range names {
		all[name] = cells[i]
	}
	return all
}

func (s *slow) force(c *slowCell, k then) {
	if c.v != nil {
		k(c.v)
		return
	}
	if s.again {
		s.term(c.e, c.at, k)
		return
	}
	if c.busy {
		s.stop(api.Loop, "")
		return
	}
	s.uses++
	c.busy = true
	s.term(c.e, c.at, func(v *slowValue) {
		c.v = v
		k(v)
	})
}

func slowCells(l []api.Expr, at map[string]*slowCell) (cells []*slowCell) {
	for _, e := range l {
		if e.Kind == api.EVar {
			cells = append(cells, at[e.Text])
		} else {
			cells = append(cells, &slowCell{e: e, at: at, v: slowConstant(e)})
		}
	}
	return cells
}

// apply gives f the first cell, then what comes of that the others.
func (s *slow) apply(f *slowValue, cells []*slowCell, k then) {
	if len(cells) == 0 {
		k(f)
		return
	}
	if f.kind != "function" {
		s.stop(api.Failed, "apply")
		return
	}
	given := &slowValue{kind: "function", e: f.e, at: f.at, cells: append(slices.Clone(f.cells), cells[0])}
	if len(given.cells) < len(f.e.Names) {
		s.apply(given, cells[1:], k)
		return
	}
	s.term(f.e.A[0], slowNames(f.at, f.e.Names, given.cells), func(v *slowValue) { s.apply(v, cells[1:], k) })
}

func (s *slow) primitive(e api.Expr, at map[string]*slowCell, k then) {
	if e.Text == "cons" {
		k(&slowValue{kind: "pair", cells: slowCells(e.A, at)})
		return
	}
	s.parts(e, at, nil, func(l []*slowValue) { s.result(e.Text, l[0], l[len(l)-1], k) })
}

// parts has all parts of e reckoned, in order.
func (s *slow) parts(e api.Expr, at map[string]*slowCell, l []*slowValue, k func(l []*slowValue)) {
	if len(l) == len(e.A) {
		k(l)
		return
	}
	s.term(e.A[len(l)], at, func(v *slowValue) {
		if slices.Contains(strings.Fields("+ - * quotient remainder < ="), e.Text) && v.kind != "number" {
			s.stop(api.Failed, "number")
			return
		}
		s.parts(e, at, append(l, v), k)
	})
}

func slowTruth(is bool) *slowValue {
	return &slowValue{kind: "truth", text: map[bool]string{true: "#t", false: "#f"}[is]}
}

func (s *slow) result(name string, a, b *slowValue, k then) {
	plain := a.kind != "pair" && a.kind != "function"
	switch name {
	case "seq":
		k(b)
	case "eq?":
		k(slowTruth(plain && a.kind == b.kind && a.text == b.text))
	case "null?", "pair?", "integer?", "symbol?":
		k(slowTruth(a.kind == map[string]string{"null?": "nil", "pair?": "pair", "integer?": "number", "symbol?": "symbol"}[name]))
	case "not":
		k(slowTruth(a.kind == "truth" && a.text == "#f"))
	case "error":
		if plain {
			s.stop(api.Failed, "error "+a.text)
		} else {
			s.stop(api.Failed, "error")
		}
	case "car", "cdr":
		if a.kind != "pair" {
			s.stop(api.Failed, "pair")
		} else {
			s.force(a.cells[strings.Index("ad", name[1:2])], k)
		}
	default:
		s.numbers(name, a.text, b.text, k)
	}
}

func (s *slow) numbers(name, a, b string, k then) {
	var x, y, z lib.Int
	x.SetString(a, 10)
	y.SetString(b, 10)
	switch name {
	case "<", "=":
		k(slowTruth(x.Cmp(&y) == strings.Index("<=", name)-1))
		return
	case "+":
		z.Add(&x, &y)
	case "-":
		z.Sub(&x, &y)
	case "*":
		z.Mul(&x, &y)
	default:
		if y.Sign() == 0 {
			s.stop(api.Failed, "zero")
			return
		}
		q, r := new(lib.Int).QuoRem(&x, &y, new(lib.Int))
		z = map[string]lib.Int{"quotient": *q, "remainder": *r}[name]
	}
	if len(strings.TrimLeft(z.String(), "-")) > api.MaxDigits {
		s.stop(api.Limit, "")
		return
	}
	k(&slowValue{kind: "number", text: z.String()})
}

func (s *slow) put(text string, k func()) {
	s.text += text
	if len(s.text) > api.MaxText {
		s.stop(api.Limit, "")
		return
	}
	s.todo = k
}

func (s *slow) print(v *slowValue, k func()) {
	switch v.kind {
	case "function":
		s.put("#<function>", k)
	case "pair":
		s.put("(", func() { s.printPair(v, k) })
	default:
		s.put(v.text, k)
	}
}

// printPair prints what stands behind the bracket, or the blank, ahead of a pair's first one.
func (s *slow) printPair(v *slowValue, k func()) {
	s.force(v.cells[0], func(first *slowValue) {
		s.print(first, func() {
			s.force(v.cells[1], func(second *slowValue) {
				switch second.kind {
				case "pair":
					s.put(" ", func() { s.printPair(second, k) })
				case "nil":
					s.put(")", k)
				default:
					s.put(" . ", func() { s.print(second, func() { s.put(")", k) }) })
				}
			})
		})
	})
}

// slowEval is what Eval must answer.
func slowEval(e api.Expr, input []string, fuel int, again bool) answer {
	s := slow{fuel: fuel, again: again}
	read := &slowValue{kind: "nil", text: "()"}
	for i := len(input) - 1; i >= 0; i-- {
		read = &slowValue{kind: "pair", cells: []*slowCell{{v: &slowValue{kind: "number", text: input[i]}}, {v: read}}}
	}
	s.term(e, map[string]*slowCell{"input": {v: read}}, func(v *slowValue) {
		s.print(v, func() { s.o = api.Outcome{Kind: api.Printed, Text: s.text} })
	})
	for s.todo != nil {
		do := s.todo
		s.todo = nil
		do()
	}
	return answer{s.o, s.steps, s.uses}
}
