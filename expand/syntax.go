package expand

import (
	"slices"

	"thunk/api"
	"thunk/datum"
	"thunk/rules"
)

// rule is a pattern, without the part that stands for the use's name, and a template.
type rule struct{ pattern, template api.Datum }

// syntax is rules, and the scope in which they were made.
type syntax struct {
	lits  []string
	rules []rule
	made  *scope
}

// take takes the rules that d is. The form is looked at as a whole, ahead of each rule's own faults.
func (s *syntax) take(p place, d api.Datum) error {
	if !rulesFormed(d) {
		return p.fail(d, api.ErrForm)
	}
	for _, lit := range d.L[1].L {
		s.lits = append(s.lits, lit.Text)
	}
	for _, pair := range d.L[2:] {
		r := rule{headless(pair.L[0]), pair.L[1]}
		if err := rules.Check(s.lits, r.pattern, r.template); err != api.OK {
			return p.fail(pair, err)
		}
		s.rules = append(s.rules, r)
	}
	return nil
}

// rulesFormed tells whether d is (syntax-rules (x ..) (pattern template) ..).
func rulesFormed(d api.Datum) bool {
	return d.Kind == api.DList && len(d.L) >= 3 && datum.Is(d.L[0], "syntax-rules") &&
		d.L[1].Kind == api.DList && symbols(d.L[1].L...) &&
		!slices.ContainsFunc(d.L[2:], noRule)
}

func noRule(d api.Datum) bool {
	return d.Kind != api.DList || len(d.L) != 2 || d.L[0].Kind != api.DList || len(d.L[0].L) == 0
}

// symbols tells whether all are.
func symbols(l ...api.Datum) bool {
	return !slices.ContainsFunc(l, func(d api.Datum) bool { return d.Kind != api.DSym })
}

// headless is a list without its first part.
func headless(d api.Datum) api.Datum {
	return api.Datum{Kind: api.DList, L: d.L[1:]}
}

// expanded is the term of what rules make of the use d, which stands at p.
func (x *expander) expanded(p place, s *syntax, d api.Datum) (api.Expr, error) {
	if x.steps() >= api.MaxSteps {
		return api.Expr{}, p.fail(d, api.ErrLimit)
	}
	filled, err := s.fill(d, x.step(s.made))
	if err != api.OK {
		return api.Expr{}, p.fail(d, err)
	}
	return x.term(p.filled(d), filled)
}
