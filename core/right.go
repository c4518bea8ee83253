package core

import (
	"thunk/api"
	"thunk/big"
)

func wrong(e api.Expr) bool {
	return !Right(e)
}

// textRight tells whether e's kind is one, and its text what that asks for. A primitive that is none takes nothing, so that to count its parts would not tell it.
func textRight(e api.Expr) bool {
	switch e.Kind {
	case api.EInt:
		return big.Right(e.Text)
	case api.EBool:
		return e.Text == "#t" || e.Text == "#f"
	case api.ESym, api.EVar:
		return e.Text != ""
	case api.EPrim:
		return Arity(e.Text) > 0
	case api.ENil, api.ELam, api.EApp, api.EIf, api.ELet:
		return e.Text == ""
	}
	return false
}

// namesRight tells whether e binds names where its kind does.
func namesRight(e api.Expr) bool {
	if e.Kind == api.ELam || e.Kind == api.ELet {
		return len(e.Names) > 0 && apart(e.Names...)
	}
	return len(e.Names) == 0
}

// apart tells whether none of names is empty, or there twice.
func apart(names ...string) bool {
	seen := make(map[string]struct{}, len(names))
	for _, name := range names {
		if name != "" {
			seen[name] = struct{}{}
		}
	}
	return len(seen) == len(names)
}

// partsRight tells whether e has as many parts as its kind takes.
func partsRight(e api.Expr) bool {
	switch e.Kind {
	case api.ELam:
		return len(e.A) == 1
	case api.EApp:
		return len(e.A) >= 2
	case api.EIf:
		return len(e.A) == 3
	case api.ELet:
		return len(e.A) == len(e.Names)+1
	case api.EPrim:
		return len(e.A) == Arity(e.Text)
	}
	return len(e.A) == 0
}
