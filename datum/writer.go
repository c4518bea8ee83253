package datum

import (
	"strings"

	"thunk/api"
)

// writer is a text that grows, and knows how a datum is put behind it: all parts go into the one text, as a text for each would be copied again for every list around it.
type writer struct{ strings.Builder }

// datum writes a list's brackets and parts; of any other datum, its text alone, whatever hangs on it.
func (w *writer) datum(d api.Datum) {
	if d.Kind != api.DList {
		w.WriteString(d.Text)
		return
	}
	w.WriteByte('(')
	for i, part := range d.L {
		if i > 0 {
			w.WriteByte(' ')
		}
		w.datum(part)
	}
	w.WriteByte(')')
}
