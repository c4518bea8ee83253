package expand

import (
	"slices"

	"thunk/api"
	"thunk/datum"
	"thunk/rules"
)

// spread is what a variable of a pattern is bound to: of each depth how long its rows are, one behind the other, and the Sizes of all its data together.
type spread struct {
	id      api.Datum
	lengths [][]int
	size    int
}

func spreadOf(b rules.Bound) spread {
	s := spread{id: b.Name}
	level := [][]rules.Bound{{b}}
	for range b.Deep {
		var lengths []int
		var rows [][]rules.Bound
		for _, l := range level {
			for i := range l {
				lengths, rows = append(lengths, len(l[i].L)), append(rows, l[i].L)
			}
		}
		s.lengths, level = append(s.lengths, lengths), rows
	}
	for _, l := range level {
		for i := range l {
			s.size += datum.Size(l[i].D)
		}
	}
	return s
}

// key is what tells most identifiers apart: their text, and their newest mark.
type key struct {
	text string
	mark int
}

func keyOf(id api.Datum) key {
	k := key{text: id.Text}
	if n := len(id.Marks); n > 0 {
		k.mark = id.Marks[n-1]
	}
	return k
}

// sizer reckons how great a template is when it is filled.
type sizer struct{ bound map[key][]spread }

func newSizer(l ...rules.Bound) sizer {
	s := sizer{make(map[key][]spread, len(l))}
	for _, b := range l {
		k := keyOf(b.Name)
		s.bound[k] = append(s.bound[k], spreadOf(b))
	}
	return s
}

// find is what the variable t is bound to; false, if it is none.
func (s sizer) find(t api.Datum) (spread, bool) {
	if t.Kind != api.DSym {
		return spread{}, false
	}
	for _, b := range s.bound[keyOf(t)] {
		if datum.Same(b.id, t) {
			return b, true
		}
	}
	return spread{}, false
}

// size is the Size of all that t is filled as, which stands within so many dots and so comes so many times; false, if it is not filled. What is bound in rows comes once, each of it.
func (s sizer) size(t api.Datum, times, dots int) (int, bool) {
	if b, is := s.find(t); is {
		if len(b.lengths) > 0 {
			times = 1
		}
		return times * b.size, true
	}
	all := times
	for i, part := range t.L {
		if isDots(part) {
			continue
		}
		n, is := s.part(part, times, dots, i+1 < len(t.L) && isDots(t.L[i+1]))
		if !is {
			return 0, false
		}
		all += n
	}
	return all, true
}

// part is likewise of a part of a list.
func (s sizer) part(t api.Datum, times, dots int, dotted bool) (int, bool) {
	if dotted {
		return s.repeated(t, dots)
	}
	return s.size(t, times, dots)
}

// repeated is the Size of all that t is filled as, which has dots behind it and stands within so many others: it comes for each of the rows of that depth, which must be as long for all that it has in them.
func (s sizer) repeated(t api.Datum, dots int) (int, bool) {
	rows := s.rows(nil, t, dots)
	other := func(lengths []int) bool { return !slices.Equal(lengths, rows[0]) }
	if len(rows) == 0 || slices.ContainsFunc(rows, other) {
		return 0, false
	}
	times := 0
	for _, n := range rows[0] {
		times += n
	}
	return s.size(t, times, dots+1)
}

// rows puts behind l how long the rows are, of the depth behind so many dots, of each of t's variables that has such.
func (s sizer) rows(l [][]int, t api.Datum, dots int) [][]int {
	if b, is := s.find(t); is && len(b.lengths) > dots {
		return append(l, b.lengths[dots])
	}
	for _, part := range t.L {
		l = s.rows(l, part, dots)
	}
	return l
}

func isDots(d api.Datum) bool {
	return datum.Is(d, "...")
}
