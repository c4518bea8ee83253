package machine

import (
	"slices"

	"thunk/api"
	"thunk/chain"
	"thunk/strict"
)

// mostEarly is how many values of one let, or of lets one within the other, are reckoned early. While one is reckoned, all that is there waits: with very many values that would be much more than they are themselves.
const mostEarly = 100

// foresight is what must be reckoned, as far as it is known ahead.
type foresight struct {
	needs map[string]strict.Need // of functions, by their names
	found map[string]names       // of lets, by the first of their names: which of these, and of other lets', have values that must be reckoned whenever the let is
}

// newForesight is that of p; if nothing is to be reckoned early, nothing is known.
func newForesight(p api.Prog, early bool) foresight {
	f := foresight{map[string]strict.Need{}, map[string]names{}}
	if !early {
		return f
	}
	for _, need := range needsOf(p.Sups...) {
		f.needs[need.Name] = need
	}
	for _, sup := range p.Sups {
		f.look(sup.Body)
	}
	f.look(p.Main)
	return f
}

func needsOf(sups ...api.Sup) []strict.Need {
	if len(sups) == 0 {
		return nil
	}
	all := api.Expr{Kind: api.ELet}
	for _, sup := range sups {
		all.Names = append(all.Names, sup.Name)
		all.A = append(all.A, api.Expr{Kind: api.ELam, Names: sup.Params, A: []api.Expr{sup.Body}})
	}
	all.A = append(all.A, api.Expr{Kind: api.ENil})
	return strict.Needs(all)
}

// look finds out of each let in e what must be reckoned. It answers a term that demands what e does, in which each let is short: else what stands deep within lets would be gone through for each of them. As no name is bound twice, lets that e begins with are as one that binds all their names.
func (f foresight) look(e api.Expr) api.Expr {
	lets, body := chain.Lets(e)
	if len(lets) == 0 {
		return api.Expr{Kind: e.Kind, Text: e.Text, A: f.lookAt(nil, e.A...)}
	}
	one := api.Expr{Kind: api.ELet}
	for _, let := range lets {
		one.Names, one.A = append(one.Names, let.Names...), f.lookAt(one.A, let.A...)
	}
	one.A = f.lookAt(one.A, body)
	found := f.foundIn(one)
	for _, let := range lets {
		f.found[let.Names[0]] = found
	}
	return f.shortened(one)
}

// lookAt puts behind l what look answers of others.
func (f foresight) lookAt(l []api.Expr, others ...api.Expr) []api.Expr {
	for _, e := range others {
		l = append(l, f.look(e))
	}
	return l
}

// shortened is a term that demands what a let does.
func (f foresight) shortened(let api.Expr) api.Expr {
	demanded, all := f.demands(let)
	if all {
		return api.Expr{Kind: api.EPrim, Text: "error", A: []api.Expr{{Kind: api.ENil}}}
	}
	return short(demanded...)
}

// short is a term that demands these, and is none of them itself.
func short(l ...string) api.Expr {
	parts := []api.Expr{{Kind: api.ENil}, {Kind: api.ENil}}
	switch half := len(l) / 2; len(l) {
	case 0:
		return parts[0]
	case 1:
		parts[0] = api.Expr{Kind: api.EVar, Text: l[0]}
	default:
		parts[0], parts[1] = short(l[:half]...), short(l[half:]...)
	}
	return api.Expr{Kind: api.EPrim, Text: "seq", A: parts}
}

func (f foresight) demands(e api.Expr) (demanded []string, all bool) {
	return strict.Demands(e, f.known(nil, e))
}

// known is l, and behind it what is known of the functions that e asks for: there may be many others.
func (f foresight) known(l []strict.Need, e api.Expr) []strict.Need {
	if need, is := f.needs[e.Text]; is && e.Kind == api.EVar {
		l = append(l, need)
	}
	for _, part := range e.A {
		l = f.known(l, part)
	}
	return l
}

// foundIn are those of a let's names whose values must be reckoned whenever it is: by its last part, or by such a value.
func (f foresight) foundIn(e api.Expr) names {
	found, values := names{}, map[string]int{}
	for i, name := range e.Names {
		values[name] = i
	}
	for next := []int{len(e.Names)}; len(next) > 0 && len(found) < len(e.Names); next = next[1:] {
		demanded, _ := f.demands(e.A[next[0]])
		for _, name := range demanded {
			if i, is := values[name]; is && !found.has(name) {
				found.add(name)
				next = append(next, i)
			}
		}
	}
	return found
}

// order is how a let's values are gone about, by their places: those that are reckoned outright, those that there are cells for, and those of these that are reckoned before all else.
type order struct{ outright, cells, first []int }

func (o order) early() int {
	return len(o.outright) + len(o.first)
}

// order is that of a let of which so many values at most are reckoned early. What asks for a value that is not there yet can't be reckoned outright.
func (f foresight) order(e api.Expr, most int) (o order) {
	must, open := f.found[e.Names[0]], names{}
	open.add(e.Names...)
	for i, name := range e.Names {
		early := must.has(name) && !isMade(e.A[i]) && o.early() < most
		if early && !open.isIn(e.A[i]) {
			o.outright = append(o.outright, i)
			delete(open, name)
			continue
		}
		o.cells = append(o.cells, i)
		if early {
			o.first = append(o.first, i)
		}
	}
	return o
}

// isMade tells whether there is nothing to be reckoned of a value.
func isMade(e api.Expr) bool {
	switch e.Kind {
	case api.EInt, api.EBool, api.ENil, api.ESym:
		return true
	}
	return isCons(e)
}

func isCons(e api.Expr) bool {
	return e.Kind == api.EPrim && e.Text == "cons"
}

// names are some, none twice.
type names map[string]struct{}

func (n names) add(l ...string) {
	for _, name := range l {
		n[name] = struct{}{}
	}
}

func (n names) has(name string) bool {
	_, is := n[name]
	return is
}

// isIn tells whether e asks for one of them. As no name is bound twice, nothing in e hides one.
func (n names) isIn(e api.Expr) bool {
	for x, ahead := range chain.Of(e) {
		if x.Kind == api.EVar && n.has(x.Text) || slices.ContainsFunc(ahead, n.isIn) {
			return true
		}
	}
	return false
}
