package expand

import (
	"thunk/api"
	"thunk/datum"
	"thunk/rules"
)

const maxFilled = 20000 // as great a Size as what is filled may have

// fill is what the first rule of the use's form makes of it.
func (s *syntax) fill(use api.Datum, mark int) (api.Datum, api.Errno) {
	use = headless(use)
	for _, r := range s.rules {
		bound, is := rules.Match(s.lits, r.pattern, use)
		if !is {
			continue
		}
		size, is := filledSize(r.template, bound)
		if !is {
			continue
		}
		if size > maxFilled {
			return api.Datum{}, api.ErrLimit
		}
		d, _ := rules.Fill(r.template, bound, mark)
		return d, api.OK
	}
	return api.Datum{}, api.ErrMatch
}

// filledSize is the Size of what template is filled as, reckoned ahead of it: a great datum, brought once more for each of a long row, would fill all memory.
func filledSize(template api.Datum, l []rules.Bound) (int, bool) {
	d, is := rules.Fill(template, standIns(l), 0)
	return standInSize(d), is
}

// standIns is l with a small datum for each, at a place that tells its Size; what the template brings itself is at 0.
func standIns(l []rules.Bound) []rules.Bound {
	small := make([]rules.Bound, 0, len(l))
	for _, b := range l {
		d := api.Datum{Kind: api.DInt, At: datum.Size(b.D)}
		small = append(small, rules.Bound{Name: b.Name, Deep: b.Deep, D: d, L: standIns(b.L)})
	}
	return small
}

// standInSize is the Size that d would have with what its small data stand for.
func standInSize(d api.Datum) int {
	size := max(d.At, 1)
	for _, part := range d.L {
		size += standInSize(part)
	}
	return size
}
