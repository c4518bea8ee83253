package natural_test

import (
	"strings"
	"testing"

	"thunk/api"
	"thunk/core"
)

func integer(text string) api.Expr { return api.Expr{Kind: api.EInt, Text: text} }

func symbol(text string) api.Expr { return api.Expr{Kind: api.ESym, Text: text} }

func variable(name string) api.Expr { return api.Expr{Kind: api.EVar, Text: name} }

func app(parts ...api.Expr) api.Expr { return api.Expr{Kind: api.EApp, A: parts} }

func prim(text string, parts ...api.Expr) api.Expr {
	return api.Expr{Kind: api.EPrim, Text: text, A: parts}
}

// let is a let of one name.
func let(name string, value, body api.Expr) api.Expr {
	return api.Expr{Kind: api.ELet, Names: []string{name}, A: []api.Expr{value, body}}
}

func lambda(body api.Expr, names ...string) api.Expr {
	return api.Expr{Kind: api.ELam, Names: names, A: []api.Expr{body}}
}

// term is the term of that core.Text.
func term(t *testing.T, s string) api.Expr {
	t.Helper()
	words := strings.Fields(strings.NewReplacer("(", " ( ", ")", " ) ").Replace(s))
	e, rest := take(words)
	if len(rest) > 0 || core.Text(e) != s {
		t.Fatalf("%s is no term's text", s)
	}
	return e
}

// take takes a term from the words.
func take(words []string) (api.Expr, []string) {
	word, words := words[0], words[1:]
	switch {
	case word == "(":
		return takeForm(words)
	case word[0] == '#':
		return api.Expr{Kind: api.EBool, Text: word}, words
	case word[0] == '\'':
		return symbol(word[1:]), words
	case strings.Trim(word, "-0123456789") == "" && word != "-":
		return integer(word), words
	}
	return variable(word), words
}

// takeForm takes a form whose bracket is taken.
func takeForm(words []string) (e api.Expr, rest []string) {
	switch word := words[0]; {
	case word == ")":
		return api.Expr{Kind: api.ENil}, words[1:]
	case word == "lambda":
		e.Kind = api.ELam
		for words = words[2:]; words[0] != ")"; words = words[1:] {
			e.Names = append(e.Names, words[0])
		}
		words = words[1:]
	case word == "let":
		e.Kind = api.ELet
		for words = words[2:]; words[0] != ")"; words = words[1:] {
			var value api.Expr
			e.Names = append(e.Names, words[1])
			value, words = take(words[2:])
			e.A = append(e.A, value)
		}
		words = words[1:]
	case word == "if":
		e.Kind, words = api.EIf, words[1:]
	case core.Arity(word) > 0:
		e.Kind, e.Text, words = api.EPrim, word, words[1:]
	default:
		e.Kind = api.EApp
	}
	for words[0] != ")" {
		var part api.Expr
		part, words = take(words)
		e.A = append(e.A, part)
	}
	return e, words[1:]
}
