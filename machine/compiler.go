package machine

import (
	"thunk/api"
	"thunk/chain"
)

// function is a program's own.
type function struct {
	takes int // how many arguments: they come to lie in the first slots
	body  *term
}

// program is one that is made ready for the machine.
type program struct {
	functions []function
	main      *term
	terms     []*term // by their numbers
	constants []fixed // by their numbers
	width     int     // how many slots a function has at most
}

// compiler makes a program ready in which each name is bound once.
type compiler struct {
	program
	foresight
	constantNumbers
	functionNumbers map[string]int
	slots           map[string]int // of what is bound
	used            int            // how many slots the function has, as far as it was gone through
}

func compiled(p api.Prog, early bool) program {
	c := compiler{foresight: newForesight(p, early), constantNumbers: constantNumbers{}, functionNumbers: map[string]int{}, slots: map[string]int{}}
	c.firstConstants()
	for i, sup := range p.Sups {
		c.functionNumbers[sup.Name] = i
	}
	for _, sup := range p.Sups {
		c.functions = append(c.functions, function{len(sup.Params), c.whole(sup.Body, sup.Params...)})
	}
	c.main = c.whole(p.Main)
	return c.program
}

// whole is the body of a function with these parameters.
func (c *compiler) whole(body api.Expr, params ...string) *term {
	c.used = 0
	c.bind(params...)
	t := c.term(body)
	c.width = max(c.width, c.used)
	return t
}

// bind gives the names slots, one behind the other, and tells the first.
func (c *compiler) bind(names ...string) int {
	first := c.used
	for i, name := range names {
		c.slots[name] = first + i
	}
	c.used += len(names)
	return first
}

func (c *compiler) add(t term) *term {
	t.number = len(c.terms)
	c.terms = append(c.terms, &t)
	return &t
}

// term has lets, each within the one ahead of it, put one at the place of the last part of the other.
func (c *compiler) term(e api.Expr) *term {
	var whole *term
	place := &whole
	lets, body := chain.Lets(e)
	most := mostEarly
	for _, let := range lets {
		o := c.order(let, most)
		most -= o.early()
		place = c.let(place, let, o)
	}
	*place = c.other(body)
	return whole
}

func (c *compiler) other(e api.Expr) *term {
	switch e.Kind {
	case api.EVar:
		return c.name(e)
	case api.EApp:
		return c.add(term{kind: application, parts: c.all(e.A...)})
	case api.EIf:
		return c.add(term{kind: choice, parts: c.all(e.A...)})
	case api.EPrim:
		if isCons(e) {
			return c.add(term{kind: pairing, parts: c.all(e.A...)})
		}
		return c.add(term{kind: primitive, text: e.Text, parts: c.all(e.A...)})
	}
	return c.constant(e)
}

func (c *compiler) all(l ...api.Expr) (made []*term) {
	for _, e := range l {
		made = append(made, c.term(e))
	}
	return made
}

// name is a slot, a function that was given nothing, or what is read.
func (c *compiler) name(e api.Expr) *term {
	if slot, is := c.slots[e.Text]; is {
		return c.add(term{kind: variable, place: slot})
	}
	if _, is := c.functionNumbers[e.Text]; is {
		return c.constant(e)
	}
	return c.add(term{kind: reading})
}

func (c *compiler) constant(e api.Expr) *term {
	return c.add(term{kind: constant, place: c.constantNumber(e)})
}

// put puts t at a place, and tells the place of its last part, which is still to come.
func (c *compiler) put(place **term, t term) **term {
	t.parts = append(t.parts, nil)
	*place = c.add(t)
	return &t.parts[len(t.parts)-1]
}

// let has what is reckoned outright around all else, one within the other, then the cells, then what is reckoned first of these.
func (c *compiler) let(place **term, e api.Expr, o order) **term {
	for _, i := range o.outright {
		value := c.term(e.A[i])
		place = c.put(place, term{kind: outright, place: c.bind(e.Names[i]), parts: []*term{value}})
	}
	if len(o.cells) > 0 {
		place = c.cells(place, e, o.cells...)
	}
	for _, i := range o.first {
		name := c.name(api.Expr{Kind: api.EVar, Text: e.Names[i]})
		place = c.put(place, term{kind: primitive, text: "seq", parts: []*term{name}})
	}
	return place
}

// cells has those values of a let that are not reckoned outright made.
func (c *compiler) cells(place **term, e api.Expr, which ...int) **term {
	var names []string
	var values []api.Expr
	for _, i := range which {
		names, values = append(names, e.Names[i]), append(values, e.A[i])
	}
	slot := c.bind(names...)
	return c.put(place, term{kind: lets, place: slot, parts: c.all(values...)})
}
