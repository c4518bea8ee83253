package strict

// names are some, none twice.
type names map[string]struct{}

func setOf(l ...string) names {
	n := make(names, len(l))
	for _, name := range l {
		n[name] = struct{}{}
	}
	return n
}

func (n names) has(name string) bool {
	_, is := n[name]
	return is
}

func (n names) add(more names) {
	for name := range more {
		n[name] = struct{}{}
	}
}

func (n names) drop(l ...string) {
	for _, name := range l {
		delete(n, name)
	}
}

// shared is the names that both a and b have, in any order. The lesser one is gone through, as the other may hold those of much that stands within.
func shared[A, B any](a map[string]A, b map[string]B) (l []string) {
	if len(a) > len(b) {
		return shared(b, a)
	}
	for name := range a {
		if _, is := b[name]; is {
			l = append(l, name)
		}
	}
	return l
}

// demand is the names whose values there must be ahead of a term's own; all of them, if it never has one: then none are written down.
type demand struct {
	names
	all bool
}

// together is what a and b demand. It takes them over: neither is used again.
func together(a, b demand) demand {
	if a.all || b.all {
		return demand{all: true}
	}
	if len(a.names) < len(b.names) {
		a, b = b, a
	}
	a.add(b.names)
	return a
}

// both is what a demands and b does, too.
func both(a, b demand) demand {
	switch {
	case a.all:
		return b
	case b.all:
		return a
	}
	return demand{names: setOf(shared(a.names, b.names)...)}
}
