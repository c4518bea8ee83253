package lift

import (
	"strings"
)

// writer is a text that grows line by line.
type writer struct{ strings.Builder }

// line writes the words, parted by blanks.
func (w *writer) line(words ...string) {
	for i, word := range words {
		if i > 0 {
			w.WriteByte(' ')
		}
		w.WriteString(word)
	}
	w.WriteByte('\n')
}
