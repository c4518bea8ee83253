package machine

import (
	"maps"
	"slices"
)

// Kinds of terms, as the machine reckons them.
const (
	constant    = iota // one of the program's
	variable           // a slot
	reading            // what is read
	application        // parts: what is applied, and atoms
	choice             // parts: three
	lets               // parts: the values of slots, and what is reckoned with these
	outright           // parts: the value of a slot, which is reckoned ahead, and what is reckoned with it
	pairing            // parts: two atoms
	primitive          // parts: one or two
)

// term is a term of the program. What its names stand for lies in slots, all of one function's apart, so that each part of a term knows its own wherever it is reckoned.
type term struct {
	kind   int
	number int    // objects know a term by its number
	place  int    // which constant, which slot; of slots that it binds the first
	text   string // which primitive
	parts  []*term
	needs  []int // what free answers; nil: it was never asked
	keeps  []int // what later answers; nil: it was never asked
}

func (t *term) isAtom() bool {
	return t.kind == constant || t.kind == variable || t.kind == reading
}

// binds is how many slots t binds.
func (t *term) binds() int {
	switch t.kind {
	case lets:
		return len(t.parts) - 1
	case outright:
		return 1
	}
	return 0
}

// bindsSlot tells whether t binds that slot.
func (t *term) bindsSlot(slot int) bool {
	return t.place <= slot && slot < t.place+t.binds()
}

// free are the slots that must be there for t to be reckoned. They are looked for when they are asked for: of all terms in one another together they may be many.
func (t *term) free() []int {
	if t.needs == nil {
		t.needs = slotsOf(t)
	}
	return t.needs
}

// later are the slots that must be there when the first part of t has come to its value.
func (t *term) later() []int {
	if t.keeps == nil {
		t.keeps = slices.DeleteFunc(slotsOf(t.parts[1:]...), t.bindsSlot)
	}
	return t.keeps
}

// slotsOf are the slots that must be there for these to be reckoned, rising; never nil.
func slotsOf(l ...*term) []int {
	s := slotSet{}
	s.look(l...)
	found := slices.AppendSeq(make([]int, 0, len(s)), maps.Keys(s))
	slices.Sort(found)
	return found
}

// slotSet is some slots, none twice.
type slotSet map[int]struct{}

// look goes through terms.
func (s slotSet) look(l ...*term) {
	for _, t := range l {
		s.lookAt(t)
	}
}

// lookAt goes through t, then its last part, and so on. What a term binds nothing around it can ask for, as no slot is bound twice: so it may be taken out again behind it.
func (s slotSet) lookAt(t *term) {
	binding := []*term{}
	for ; len(t.parts) > 0; t = t.parts[len(t.parts)-1] {
		s.look(t.parts[:len(t.parts)-1]...)
		if t.binds() > 0 {
			binding = append(binding, t)
		}
	}
	if t.kind == variable {
		s[t.place] = struct{}{}
	}
	for _, t := range binding {
		for i := range t.binds() {
			delete(s, t.place+i)
		}
	}
}

// isSelection tells whether t picks one of what an atom is.
func (t *term) isSelection() bool {
	return t.kind == primitive && (t.text == "car" || t.text == "cdr") && t.parts[0].isAtom()
}

// selects tells which one: the first is 0, the second 1.
func (t *term) selects() int {
	if t.text == "car" {
		return 0
	}
	return 1
}
