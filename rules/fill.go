package rules

import (
	"slices"

	"thunk/api"
)

// filler fills a template; under dots its table's rows are, one by one, what stands in them.
type filler struct {
	table
	mark int
}

// datum is what t is filled as.
func (f filler) datum(t api.Datum) (api.Datum, bool) {
	if at, is := f.place(t); is {
		return copied(f.l[at].D), f.l[at].Deep == 0
	}
	switch t.Kind {
	case api.DSym:
		return api.Datum{Kind: api.DSym, Text: t.Text, Marks: slices.Concat(t.Marks, []int{f.mark})}, true
	case api.DList:
		return f.list(t)
	}
	return api.Datum{Kind: t.Kind, Text: t.Text}, true
}

func (f filler) list(t api.Datum) (api.Datum, bool) {
	d := api.Datum{Kind: api.DList}
	for part, dotted := range parts(t) {
		var is bool
		if d.L, is = f.part(d.L, part, dotted); !is {
			return api.Datum{}, false
		}
	}
	return d, true
}

// part puts behind l what a part of a list is filled as: one datum, but under dots.
func (f filler) part(l []api.Datum, t api.Datum, dotted bool) ([]api.Datum, bool) {
	if dotted {
		return f.repeat(l, t, f.rows(nil, t)...)
	}
	d, is := f.datum(t)
	return append(l, d), is
}

// rows puts behind l the places of t's variables that are bound in rows.
func (f filler) rows(l []int, t api.Datum) []int {
	if at, is := f.place(t); is && f.l[at].Deep > 0 {
		return append(l, at)
	}
	for part := range parts(t) {
		l = f.rows(l, part)
	}
	return l
}

// repeat fills t for as many as the rows at those places have; these are put back behind it, for what else of the template has them.
func (f filler) repeat(l []api.Datum, t api.Datum, places ...int) ([]api.Datum, bool) {
	rows := make([]Bound, len(places))
	for i, at := range places {
		rows[i] = f.l[at]
	}
	if !even(rows...) {
		return l, false
	}
	for n := range rows[0].L {
		for i, at := range places {
			f.l[at] = nth(rows[i], n)
		}
		d, is := f.datum(t)
		if !is {
			return l, false
		}
		l = append(l, d)
	}
	for i, at := range places {
		f.l[at] = rows[i]
	}
	return l, true
}

// nth is what stands in a row; its name and depth follow from the row's own, whatever is told there.
func nth(row Bound, n int) Bound {
	b := row.L[n]
	b.Name, b.Deep = row.Name, row.Deep-1
	return b
}

// even tells whether there are rows, all of one length.
func even(rows ...Bound) bool {
	for _, b := range rows {
		if len(b.L) != len(rows[0].L) {
			return false
		}
	}
	return len(rows) > 0
}
