package expand

import (
	"thunk/api"
	"thunk/rules"
)

const maxFilled = 20000 // as great a Size as what is filled may have

// fill is what the first rule of the use's form makes of it. How great that is it reckons ahead: a long row, or a great datum, that a template has again and again would fill all memory.
func (s *syntax) fill(use api.Datum, mark int) (api.Datum, api.Errno) {
	use = headless(use)
	for _, r := range s.rules {
		bound, is := rules.Match(s.lits, r.pattern, use)
		if !is {
			continue
		}
		size, is := newSizer(bound...).size(r.template, 1, 0)
		if !is {
			continue
		}
		if size > maxFilled {
			return api.Datum{}, api.ErrLimit
		}
		d, _ := rules.Fill(r.template, bound, mark)
		return d, api.OK
	}
	return api.Datum{}, api.ErrMatch
}
