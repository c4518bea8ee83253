package natural

import (
	"thunk/api"
)

// scope is what names stand for: new ones over those around.
type scope struct {
	cells  map[string]*cell
	around *scope
}

func (s *scope) cell(name string) *cell {
	for ; s != nil; s = s.around {
		if c, is := s.cells[name]; is {
			return c
		}
	}
	return nil
}

// bind has the names stand for the cells within s.
func (s *scope) bind(names []string, cells []*cell) *scope {
	inner := &scope{make(map[string]*cell, len(names)), s}
	for i, name := range names {
		inner.cells[name] = cells[i]
	}
	return inner
}

// let has a let's names stand for its values, in which they do so, too.
func (s *scope) let(e *api.Expr) *scope {
	inner := &scope{make(map[string]*cell, len(e.Names)), s}
	for i, name := range e.Names {
		inner.cells[name] = &cell{closed: closed{&e.A[i], inner}}
	}
	return inner
}

// argument is a cell for e: what is a cell or a value already needs none that would be reckoned.
func (s *scope) argument(e *api.Expr) *cell {
	switch e.Kind {
	case api.EVar:
		return s.cell(e.Text)
	case api.EInt, api.EBool, api.ENil, api.ESym:
		return &cell{value: constantOf(e)}
	}
	return &cell{closed: closed{e, s}}
}

func (s *scope) arguments(l []api.Expr) []*cell {
	cells := make([]*cell, len(l))
	for i := range l {
		cells[i] = s.argument(&l[i])
	}
	return cells
}
