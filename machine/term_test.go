package machine_test

import (
	"strings"
	"testing"

	"thunk/api"
	"thunk/core"
	"thunk/expand"
	"thunk/lift"
	"thunk/norm"
	"thunk/read"
)

func integer(text string) api.Expr { return api.Expr{Kind: api.EInt, Text: text} }

func symbol(text string) api.Expr { return api.Expr{Kind: api.ESym, Text: text} }

func variable(name string) api.Expr { return api.Expr{Kind: api.EVar, Text: name} }

func app(parts ...api.Expr) api.Expr { return api.Expr{Kind: api.EApp, A: parts} }

func prim(text string, parts ...api.Expr) api.Expr {
	return api.Expr{Kind: api.EPrim, Text: text, A: parts}
}

// let is a let of one name.
func let(name string, value, body api.Expr) api.Expr {
	return api.Expr{Kind: api.ELet, Names: []string{name}, A: []api.Expr{value, body}}
}

func lambda(body api.Expr, names ...string) api.Expr {
	return api.Expr{Kind: api.ELam, Names: names, A: []api.Expr{body}}
}

// term is the term of that core.Text.
func term(t *testing.T, s string) api.Expr {
	t.Helper()
	words := strings.Fields(strings.NewReplacer("(", " ( ", ")", " ) ").Replace(s))
	e, rest := take(words)
	if len(rest) > 0 || core.Text(e) != s {
		t.Fatalf("%s is no term's text", s)
	}
	return e
}

// take takes a term from the words.
func take(words []string) (api.Expr, []string) {
	word, words := words[0], words[1:]
	switch {
	case word == "(":
		return takeForm(words)
	case word[0] == '#':
		return api.Expr{Kind: api.EBool, Text: word}, words
	case word[0] == '\'':
		return symbol(word[1:]), words
	case strings.Trim(word, "-0123456789") == "" && word != "-":
		return integer(word), words
	}
	return variable(word), words
}

// takeForm takes a form whose bracket is taken.
func takeForm(words []string) (e api.Expr, rest []string) {
	switch word := words[0]; {
	case word == ")":
		return api.Expr{Kind: api.ENil}, words[1:]
	case word == "lambda":
		e.Kind = api.ELam
		for words = words[2:]; words[0] != ")"; words = words[1:] {
			e.Names = append(e.Names, words[0])
		}
		words = words[1:]
	case word == "let":
		e.Kind = api.ELet
		for words = words[2:]; words[0] != ")"; words = words[1:] {
			var value api.Expr
			e.Names = append(e.Names, words[1])
			value, words = take(words[2:])
			e.A = append(e.A, value)
		}
		words = words[1:]
	case word == "if":
		e.Kind, words = api.EIf, words[1:]
	case core.Arity(word) > 0:
		e.Kind, e.Text, words = api.EPrim, word, words[1:]
	default:
		e.Kind = api.EApp
	}
	for words[0] != ")" {
		var part api.Expr
		part, words = take(words)
		e.A = append(e.A, part)
	}
	return e, words[1:]
}

// program is the one of that lift.Text: `|` parts its lines here.
func program(t *testing.T, s string) api.Prog {
	t.Helper()
	p := anyProgram(t, s)
	if !lift.Right(p) {
		t.Fatalf("%s is no program", s)
	}
	return p
}

// anyProgram is one that need not be right.
func anyProgram(t *testing.T, s string) (p api.Prog) {
	t.Helper()
	lines := strings.Split(s, "|")
	for _, line := range lines[:len(lines)-1] {
		head, body, _ := strings.Cut(line, " = ")
		words := strings.Split(head, " ")
		p.Sups = append(p.Sups, api.Sup{Name: words[0], Params: words[1:], Body: term(t, body)})
	}
	p.Main = term(t, lines[len(lines)-1])
	return p
}

// compiled is the program that a text means.
func compiled(t *testing.T, s string) api.Prog {
	t.Helper()
	l, _, err := read.Read(s)
	if err != api.OK {
		t.Fatalf("%s: %v", s, err)
	}
	e, _, err := expand.Expand(l)
	if err != api.OK {
		t.Fatalf("%s: %v", s, err)
	}
	return lift.Lift(norm.Norm(e))
}

// whole is p as one term.
func whole(p api.Prog) api.Expr {
	if len(p.Sups) == 0 {
		return p.Main
	}
	e := api.Expr{Kind: api.ELet}
	for _, sup := range p.Sups {
		e.Names = append(e.Names, sup.Name)
		e.A = append(e.A, lambda(sup.Body, sup.Params...))
	}
	e.A = append(e.A, p.Main)
	return e
}
