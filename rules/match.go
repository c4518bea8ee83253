package rules

import (
	"slices"

	"thunk/api"
	"thunk/datum"
)

// matcher holds a pattern against data. What it binds is still the pattern's and the data's, as much may be bound ahead of where they do not match.
type matcher struct{ words }

// match puts behind l what p's variables are bound to; false, if d is not of p's form.
func (m matcher) match(l []Bound, p, d api.Datum) ([]Bound, bool) {
	switch m.role(p) {
	case literal:
		return l, datum.Is(d, p.Text)
	case nobody:
		return l, true
	case variable:
		return append(l, Bound{Name: p, D: d}), true
	}
	switch {
	case p.Kind != d.Kind:
		return l, false
	case p.Kind == api.DInt || p.Kind == api.DBool:
		return l, p.Text == d.Text
	case p.Kind == api.DList:
		return m.list(l, p.L, d.L)
	}
	return l, false
}

// list matches a list's parts; those that are left between what stands ahead of the part with dots and what stands behind the dots are that one's.
func (m matcher) list(l []Bound, p, d []api.Datum) ([]Bound, bool) {
	at := slices.IndexFunc(p, isDots)
	if at < 1 {
		return m.each(l, p, d)
	}
	from, to := at-1, len(d)-len(p[at+1:])
	if from > to {
		return l, false
	}
	l, is := m.each(l, p[:from], d[:from])
	if is {
		l, is = m.row(l, p[from], d[from:to]...)
	}
	if is {
		l, is = m.each(l, p[at+1:], d[to:])
	}
	return l, is
}

// each matches parts one by one.
func (m matcher) each(l []Bound, p, d []api.Datum) ([]Bound, bool) {
	is := len(p) == len(d)
	for i := 0; is && i < len(p); i++ {
		l, is = m.match(l, p[i], d[i])
	}
	return l, is
}

// row matches each of between with p. The variables are told by p itself, as they are bound to empty rows, too.
func (m matcher) row(l []Bound, p api.Datum, between ...api.Datum) ([]Bound, bool) {
	rows := m.variables(nil, p, 1)
	for i := range rows {
		rows[i].L = make([]Bound, 0, len(between))
	}
	for _, d := range between {
		bound, is := m.match(nil, p, d)
		if !is {
			return l, false
		}
		for i, b := range bound {
			rows[i].L = append(rows[i].L, b)
		}
	}
	return append(l, rows...), true
}

// own gives the data of l memory that is nobody else's.
func own(l []Bound) {
	for i := range l {
		l[i].Name, l[i].D = copied(l[i].Name), copied(l[i].D)
		own(l[i].L)
	}
}

// copied is d in memory of its own.
func copied(d api.Datum) api.Datum {
	d.Marks, d.L = slices.Clone(d.Marks), slices.Clone(d.L)
	for i, part := range d.L {
		d.L[i] = copied(part)
	}
	return d
}
