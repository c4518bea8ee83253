package natural

import (
	"slices"

	"thunk/api"
)

// meter counts steps and uses.
type meter struct{ fuel, steps, uses int }

// step tells whether there was fuel for one more.
func (m *meter) step() bool {
	m.steps++
	return m.steps <= m.fuel
}

// reckoner reckons terms by need. Where there is no value it answers nil, and the outcome tells why; then all ends.
type reckoner struct {
	meter
	outcome api.Outcome
}

func (r *reckoner) stop(kind int, text string) *value {
	r.outcome = api.Outcome{Kind: kind, Text: text}
	return nil
}

func (r *reckoner) term(e *api.Expr, at *scope) *value {
	if !r.step() {
		return r.stop(api.NoFuel, "")
	}
	switch e.Kind {
	case api.EVar:
		return r.force(at.cell(e.Text))
	case api.ELam:
		return functionOf(e, at)
	case api.EApp:
		return r.apply(r.term(&e.A[0], at), at.arguments(e.A[1:]))
	case api.EIf:
		return r.choice(e, at)
	case api.ELet:
		return r.term(&e.A[len(e.Names)], at.let(e))
	case api.EPrim:
		return r.primitive(e, at)
	}
	return constantOf(e)
}

// force has a cell hold a value: its term is reckoned once.
func (r *reckoner) force(c *cell) *value {
	if c.value != nil {
		return c.value
	}
	if c.busy {
		return r.stop(api.Loop, "")
	}
	c.busy = true
	r.uses++
	c.value = r.term(c.term, c.at)
	return c.value
}

// apply gives the cells to a function; to what that comes to, if it has all, those that are left.
func (r *reckoner) apply(v *value, cells []*cell) *value {
	for v != nil && len(cells) > 0 {
		if v.function == nil {
			return r.stop(api.Failed, "apply")
		}
		open := len(v.names) - len(v.given)
		if len(cells) < open {
			return v.with(cells)
		}
		inner := v.at.bind(v.names, slices.Concat(v.given, cells[:open]))
		v, cells = r.term(v.term, inner), cells[open:]
	}
	return v
}

func (r *reckoner) choice(e *api.Expr, at *scope) *value {
	v := r.term(&e.A[0], at)
	switch {
	case v == nil:
		return nil
	case v.isFalse():
		return r.term(&e.A[2], at)
	}
	return r.term(&e.A[1], at)
}
