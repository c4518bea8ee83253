package lift

import (
	"thunk/api"
	"thunk/chain"
)

// input is the name of what is read: it is there for all, and handed to none.
const input = "input"

// nobody is where a term stands that is in no function.
const nobody = -1

// function is one that a let gives a name.
type function struct {
	name   string
	lambda api.Expr
	needs  names // those it must be handed: its extras
	users  []int // the functions that ask for it, and the one in which it stands
}

// table is the functions of a term, in order, and their numbers by their names.
type table struct {
	functions []function
	numbers   map[string]int
}

func (t *table) add(name string, lambda api.Expr, in int) {
	t.numbers[name] = len(t.functions)
	t.functions = append(t.functions, function{name, lambda, names{}, []int{in}})
}

// binders tell of each name that is no function's which function binds it, as a parameter or in its body.
type binders map[string]int

func (b binders) bind(in int, l ...string) {
	for _, name := range l {
		b[name] = in
	}
}

func (b binders) binds(in int, name string) bool {
	binder, is := b[name]
	return is && binder == in
}

// want is a name that a function asks for.
type want struct {
	name string
	in   int
}

// finder goes through a term in which all functions have names, and finds what these must be handed.
type finder struct {
	table
	binders
	wants []want // those that were not gone through
}

// term goes through e, which stands in the function of that number.
func (f *finder) term(e api.Expr, in int) {
	for x, ahead := range chain.Of(e) {
		switch x.Kind {
		case api.EVar:
			f.ask(x.Text, in)
		case api.ELet:
			f.let(x, in, ahead...)
		default:
			f.terms(in, ahead...)
		}
	}
}

func (f *finder) terms(in int, l ...api.Expr) {
	for _, e := range l {
		f.term(e, in)
	}
}

func (f *finder) ask(name string, in int) {
	if number, is := f.numbers[name]; is {
		asked := &f.functions[number]
		asked.users = append(asked.users, in)
	} else if name != input {
		f.wants = append(f.wants, want{name, in})
	}
}

// let takes in all functions of a let ahead of those within its values.
func (f *finder) let(e api.Expr, in int, values ...api.Expr) {
	number := len(f.functions)
	for i, name := range e.Names {
		if isFunction(e, i) {
			f.add(name, e.A[i], in)
		} else {
			f.bind(in, name)
		}
	}
	for i, value := range values {
		if isFunction(e, i) {
			f.bind(number, value.Names...)
			f.terms(number, value.A...)
			number++
		} else {
			f.term(value, in)
		}
	}
}

// settle hands on what is wanted: what a function needs its users need, too, out to the one that binds it. So no function is looked at for a name that it does not need, however deep it stands.
func (f *finder) settle() {
	for len(f.wants) > 0 {
		last := len(f.wants) - 1
		w := f.wants[last]
		f.wants = f.wants[:last]
		if w.in == nobody || f.binds(w.in, w.name) || f.functions[w.in].needs.has(w.name) {
			continue
		}
		f.functions[w.in].needs[w.name] = struct{}{}
		for _, user := range f.functions[w.in].users {
			f.wants = append(f.wants, want{w.name, user})
		}
	}
}
