package expand

import (
	"strconv"

	"thunk/api"
)

// namer gives each variable a name of its own: no two end in the same number.
type namer struct{ given int }

func (n *namer) fresh(text string) string {
	n.given++
	return text + "." + strconv.Itoa(n.given)
}

// bind binds variables in p's scope, and tells their names; ErrTwice at the first that is bound there already.
func (x *expander) bind(p place, ids ...api.Datum) ([]string, error) {
	names := make([]string, 0, len(ids))
	for _, id := range ids {
		name := x.fresh(id.Text)
		if !p.add(id, meaning{kind: variable, text: name}) {
			return nil, p.fail(id, api.ErrTwice)
		}
		names = append(names, name)
	}
	return names, nil
}

// bindRules binds names in p's scope to rules that are made in another, and still to be taken; ErrTwice likewise.
func bindRules(p place, made *scope, ids ...api.Datum) ([]*syntax, error) {
	bound := make([]*syntax, 0, len(ids))
	for _, id := range ids {
		s := &syntax{made: made}
		if !p.add(id, meaning{kind: macro, syntax: s}) {
			return nil, p.fail(id, api.ErrTwice)
		}
		bound = append(bound, s)
	}
	return bound, nil
}
