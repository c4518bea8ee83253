package natural

import (
	"strings"

	"thunk/api"
)

// printer writes values, and reckons what it comes upon in them. What it does answers whether it came to its end.
type printer struct {
	reckoner
	strings.Builder
}

// program has what e comes to printed.
func (p *printer) program(e *api.Expr, texts []string) {
	read := &scope{cells: map[string]*cell{inputName: {value: list(texts)}}}
	if p.value(p.term(e, read)) {
		p.outcome = api.Outcome{Kind: api.Printed, Text: p.String()}
	}
}

func (p *printer) put(text string) bool {
	if p.Len()+len(text) > api.MaxText {
		p.stop(api.Limit, "")
		return false
	}
	p.WriteString(text)
	return true
}

func (p *printer) value(v *value) bool {
	switch {
	case v == nil:
		return false
	case v.pair != nil:
		return p.put("(") && p.value(p.force(v.first)) && p.rest(p.force(v.second)) && p.put(")")
	case v.function != nil:
		return p.put("#<function>")
	}
	return p.put(v.text)
}

// rest writes what stands behind a pair's first one. It goes on from pair to pair, as lists may be longer than calls can stand within one another.
func (p *printer) rest(v *value) bool {
	for v != nil && v.pair != nil {
		if !p.put(" ") || !p.value(p.force(v.first)) {
			return false
		}
		v = p.force(v.second)
	}
	switch {
	case v == nil:
		return false
	case v.kind == api.ENil:
		return true
	}
	return p.put(" . ") && p.value(v)
}
