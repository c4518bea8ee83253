package read

import (
	"thunk/api"
)

// list is a DList that is begun: quoted, if a quote began it, as no bracket ends it then, but the datum behind the quote.
type list struct {
	api.Datum
	quoted bool
}

// opened is the list that a bracket or a quote begins.
func opened(by byte, at int) list {
	x := list{Datum: api.Datum{Kind: api.DList, At: at}, quoted: by == '\''}
	if x.quoted {
		x.L = []api.Datum{{Kind: api.DSym, Text: "quote", At: at}}
	}
	return x
}

// lists are those that are not ended yet, the outermost first; that one is no datum's, but the whole text's, and always there.
type lists []list

// deep is within how many lists the next datum stands.
func (o lists) deep() int {
	return len(o) - 1
}

// inner is the list that the next datum stands in.
func (o lists) inner() *list {
	return &o[o.deep()]
}

// put lets d be the next part of the innermost list, which has memory of its own.
func (o lists) put(d api.Datum) {
	x := o.inner()
	x.L = append(x.L, d)
}

// finished takes off the innermost list: what is left, and it.
func (o lists) finished() (lists, api.Datum) {
	return o[:o.deep()], o.inner().Datum
}
