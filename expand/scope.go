package expand

import (
	"slices"

	"thunk/api"
	"thunk/core"
)

// What an identifier may stand for; 0: nothing.
const (
	word = 1 + iota
	primitive
	variable
	macro
)

// meaning is what an identifier stands for: a word's or a primitive's text, a variable's own name, or rules.
type meaning struct {
	kind int
	text string
	*syntax
}

// unbound is what an identifier of that text stands for where nothing binds it.
func unbound(text string) meaning {
	switch text {
	case "quote", "lambda", "let", "letrec", "if", "let-syntax", "letrec-syntax", "define", "define-syntax":
		return meaning{kind: word, text: text}
	case "input":
		return meaning{kind: variable, text: text}
	}
	if core.Arity(text) > 0 {
		return meaning{kind: primitive, text: text}
	}
	return meaning{}
}

// binding is what an identifier of these marks is bound to.
type binding struct {
	meaning
	marks []int
}

// scope is what is bound at once, by the identifiers' texts, within what is bound around.
type scope struct {
	around *scope
	bound  map[string][]binding
}

func newScope(around *scope) *scope {
	return &scope{around, map[string][]binding{}}
}

// own is what the scope itself binds id to.
func (s *scope) own(id api.Datum) (meaning, bool) {
	for _, b := range s.bound[id.Text] {
		if slices.Equal(b.marks, id.Marks) {
			return b.meaning, true
		}
	}
	return meaning{}, false
}

// add binds id; false, if the scope has bound it already.
func (s *scope) add(id api.Datum, m meaning) bool {
	if _, is := s.own(id); is {
		return false
	}
	s.bound[id.Text] = append(s.bound[id.Text], binding{m, id.Marks})
	return true
}

// find is what id was bound to newest. No scope at all binds nothing.
func (s *scope) find(id api.Datum) (meaning, bool) {
	for ; s != nil; s = s.around {
		if m, is := s.own(id); is {
			return m, true
		}
	}
	return meaning{}, false
}

// trail is the scopes in which the rules were made that brought the marks 1, 2, ..
type trail struct{ made []*scope }

// steps is how many steps there were.
func (t *trail) steps() int {
	return len(t.made)
}

// step is the mark of a new step, by rules that were made in s.
func (t *trail) step(s *scope) int {
	t.made = append(t.made, s)
	return t.steps()
}

// behind is the scope that a mark leads to; none, if no step brought it.
func (t *trail) behind(mark int) *scope {
	if mark < 1 || mark > t.steps() {
		return nil
	}
	return t.made[mark-1]
}

// meaning is what id stands for in s: where no identifier of its marks is bound, it is what the rule that brought it meant.
func (t *trail) meaning(s *scope, id api.Datum) meaning {
	for {
		if m, is := s.find(id); is {
			return m
		}
		last := len(id.Marks) - 1
		if last < 0 {
			return unbound(id.Text)
		}
		s, id.Marks = t.behind(id.Marks[last]), id.Marks[:last]
	}
}
