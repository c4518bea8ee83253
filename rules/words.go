package rules

import (
	"iter"
	"slices"

	"thunk/api"
	"thunk/datum"
)

// What a symbol of a pattern is; any other datum is none of these.
const (
	dots = 1 + iota
	literal
	nobody // matches any, and is bound to nothing
	variable
)

// words are the texts of a rule's literals.
type words struct{ texts map[string]struct{} }

func wordsOf(lits ...string) words {
	w := words{make(map[string]struct{}, len(lits))}
	for _, text := range lits {
		w.texts[text] = struct{}{}
	}
	return w
}

// role is what p is in a pattern. Dots come first: no literal takes them away.
func (w words) role(p api.Datum) int {
	if p.Kind != api.DSym {
		return 0
	}
	if isDots(p) {
		return dots
	}
	if _, is := w.texts[p.Text]; is {
		return literal
	}
	if p.Text == "_" {
		return nobody
	}
	return variable
}

// variables puts those of p, which stands within so many dots, behind l, in the order in which they stand.
func (w words) variables(l []Bound, p api.Datum, deep int) []Bound {
	if w.role(p) == variable {
		return append(l, Bound{Name: p, Deep: deep})
	}
	for part, dotted := range parts(p) {
		l = w.variables(l, part, inner(deep, dotted))
	}
	return l
}

// isDots tells whether d is dots, whatever marks it bears.
func isDots(d api.Datum) bool {
	return datum.Is(d, "...")
}

// formed tells whether, in a pattern's list and those within it, dots stand once at most, and behind a part.
func formed(l []api.Datum) bool {
	at := slices.IndexFunc(l, isDots)
	if at == 0 || at > 0 && slices.ContainsFunc(l[at+1:], isDots) {
		return false
	}
	for _, part := range l {
		if part.Kind == api.DList && !formed(part.L) {
			return false
		}
	}
	return true
}

// parts goes through what stands in d, if it is a list, but for the dots, and tells of each whether dots stand behind it.
func parts(d api.Datum) iter.Seq2[api.Datum, bool] {
	return func(yield func(part api.Datum, dotted bool) bool) {
		if d.Kind != api.DList {
			return
		}
		for i, part := range d.L {
			dotted := i+1 < len(d.L) && isDots(d.L[i+1])
			if !isDots(part) && !yield(part, dotted) {
				return
			}
		}
	}
}

// inner is within how many dots a part stands, whose list is within so many.
func inner(deep int, dotted bool) int {
	if dotted {
		return deep + 1
	}
	return deep
}
