package rules

import (
	"slices"

	"thunk/api"
	"thunk/datum"
)

// key is what tells most names apart: their text and newest mark, as names that rules brought often differ in that alone.
type key struct {
	text  string
	marks int
	last  int
}

func keyOf(d api.Datum) key {
	k := key{text: d.Text, marks: len(d.Marks)}
	if k.marks > 0 {
		k.last = d.Marks[k.marks-1]
	}
	return k
}

// table is variables, and where each name stands among them.
type table struct {
	l      []Bound
	places map[key][]int
}

// tableOf has a list of its own, as what is bound there may change.
func tableOf(l ...Bound) table {
	t := table{slices.Clone(l), make(map[key][]int, len(l))}
	for i, b := range l {
		k := keyOf(b.Name)
		t.places[k] = append(t.places[k], i)
	}
	return t
}

// place is where the first variable that is d stands; false, if d is none.
func (t table) place(d api.Datum) (int, bool) {
	for _, at := range t.places[keyOf(d)] {
		if datum.Same(t.l[at].Name, d) {
			return at, true
		}
	}
	return 0, false
}

// twice tells whether a variable stands there again.
func (t table) twice() bool {
	for i, b := range t.l {
		if at, _ := t.place(b.Name); at != i {
			return true
		}
	}
	return false
}
