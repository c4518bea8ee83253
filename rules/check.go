package rules

import (
	"thunk/api"
)

// checker looks through a template; its table is the variables of the pattern.
type checker struct{ table }

// allows tells whether t may be the pattern's template.
func (c checker) allows(t api.Datum) bool {
	_, is := c.deepest(t, 0)
	return is
}

// deepest is the greatest depth of the variables in t; false, if t may not stand within so many dots.
func (c checker) deepest(t api.Datum, within int) (int, bool) {
	if at, is := c.place(t); is {
		deep := c.l[at].Deep
		return deep, deep == 0 || deep == within
	}
	if isDots(t) || t.Kind == api.DList && stray(t.L) {
		return 0, false
	}
	most := 0
	for part, dotted := range parts(t) {
		under := inner(within, dotted)
		deep, is := c.deepest(part, under)
		if !is || dotted && deep < under {
			return 0, false
		}
		most = max(most, deep)
	}
	return most, true
}

// stray tells whether dots stand where there is no part ahead of them.
func stray(l []api.Datum) bool {
	behind := true
	for _, part := range l {
		is := isDots(part)
		if is && behind {
			return true
		}
		behind = is
	}
	return false
}
