package core

import (
	"strings"

	"thunk/api"
	"thunk/chain"
)

// writer is a text that grows, and knows how a term is put behind it: all parts go into the one text, as a text for each would be copied again for every term around it.
type writer struct{ strings.Builder }

func (w *writer) put(texts ...string) {
	for _, text := range texts {
		w.WriteString(text)
	}
}

// term writes e. Lets that it begins with are ended together behind what stands within them all.
func (w *writer) term(e api.Expr) {
	lets, body := chain.Lets(e)
	for _, let := range lets {
		w.bindings(let.Names, let.A...)
		w.put(" ")
	}
	w.other(body)
	w.put(strings.Repeat(")", len(lets)))
}

func (w *writer) other(e api.Expr) {
	switch e.Kind {
	case api.EInt, api.EBool, api.EVar:
		w.put(e.Text)
	case api.ENil:
		w.put("()")
	case api.ESym:
		w.put("'", e.Text)
	case api.ELam:
		w.form("lambda ("+strings.Join(e.Names, " ")+")", e.A...)
	case api.EApp:
		w.form("", e.A...)
	case api.EIf:
		w.form("if", e.A...)
	case api.ELet:
		w.let(e.Names, e.A...)
	case api.EPrim:
		w.form(e.Text, e.A...)
	}
}

// form writes a pair of brackets, in it the head, if there is one, and the parts.
func (w *writer) form(head string, parts ...api.Expr) {
	w.put("(", head)
	for i, part := range parts {
		if i > 0 || head != "" {
			w.put(" ")
		}
		w.term(part)
	}
	w.put(")")
}

// bindings writes how a let begins: each name with its value.
func (w *writer) bindings(names []string, values ...api.Expr) {
	w.put("(let (")
	for i, value := range values {
		if i > 0 {
			w.put(" ")
		}
		w.form(names[i], value)
	}
	w.put(")")
}

// let writes a let that is no right term: there may be more names than parts.
func (w *writer) let(names []string, parts ...api.Expr) {
	bound := min(len(names), len(parts))
	w.bindings(names, parts[:bound]...)
	for _, part := range parts[bound:] {
		w.put(" ")
		w.term(part)
	}
	w.put(")")
}
