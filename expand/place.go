package expand

import (
	"thunk/api"
)

// fault is an error, and where it is told.
type fault struct {
	api.Errno
	at int
}

// place is where a datum's term is made: what is bound there, how many terms are around it, and, within what a rule brought, where the outermost use stands.
type place struct {
	*scope
	deep    int
	brought bool
	use     int
}

// under is the place of what stands within the term at p.
func (p place) under() place {
	p.deep++
	return p
}

// inner is p with a scope of its own, in which nothing is bound yet.
func (p place) inner() place {
	p.scope = newScope(p.scope)
	return p
}

// filled is the place of what a rule made of the use at p.
func (p place) filled(use api.Datum) place {
	if !p.brought {
		p.brought, p.use = true, use.At
	}
	return p.under()
}

// fail is an error of d, told where whoever wrote the text can see it: what a rule brought stands nowhere there.
func (p place) fail(d api.Datum, err api.Errno) error {
	if p.brought {
		return fault{err, p.use}
	}
	return fault{err, d.At}
}
