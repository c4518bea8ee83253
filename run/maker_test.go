package run_test

import (
	"math/rand"
	"slices"
	"strconv"
	"strings"
)

// Kinds of values that a term is made for.
const (
	forNumber = iota
	forTruth
	forList
	forFunction
	forAny
)

// named is a name, and for which kind of values it stands, mostly.
type named struct {
	name string
	kind int
}

// maker makes texts that most often mean something. Few names, so that many are bound again, and over those that rules bring.
type maker struct{ *rand.Rand }

func newMaker(seed int64) maker { return maker{rand.New(rand.NewSource(seed))} }

func (m maker) pick(texts ...string) string { return texts[m.Intn(len(texts))] }

// names are n that are bound; seldom one of a word, of a primitive, or of what the text defines.
func (m maker) names(n int) (l []named) {
	for len(l) < n {
		x := named{m.pick("x", "y", "t", "f", "l"), max(m.Intn(forAny), m.Intn(forAny))}
		if m.Intn(60) == 0 {
			x.name = m.pick("input", "else", "if", "car", "or", "let", "a", "x.1", "...", "map")
		}
		if !slices.ContainsFunc(l, func(y named) bool { return x.name == y.name }) {
			l = append(l, x)
		}
	}
	return l
}

func texts(l []named) (names []string) {
	for _, x := range l {
		names = append(names, x.name)
	}
	return names
}

// variable is a name for that kind, if there is one; the last ones most.
func (m maker) variable(kind int, there []named) (string, bool) {
	fit := []string{}
	for _, x := range there {
		if x.kind == kind || kind == forAny {
			fit = append(fit, x.name)
		}
	}
	if len(fit) == 0 {
		return "", false
	}
	return fit[max(m.Intn(len(fit)), m.Intn(len(fit)))], true
}

func (m maker) constant(kind int) string {
	switch kind {
	case forNumber:
		return m.pick("0", "0", "1", "2", "3", "-1", "-0", "010", "12345678901234567890", "1"+strings.Repeat("0", 120))
	case forTruth:
		return m.pick("#t", "#f")
	case forList:
		return m.pick("'()", "'(1 2)", "'(a (b) 3)", "input")
	case forFunction:
		return m.pick("car", "+", "cons", "not", "seq", "map", "fold", "take")
	}
	return m.pick("'a", "'b", "'#f", "'5", "'else", "''a")
}

func form(parts ...string) string { return "(" + strings.Join(parts, " ") + ")" }

// term is one for that kind of values, or for any other, with so many terms around its parts at most.
func (m maker) term(kind, most int, there []named) string {
	if m.Intn(15) == 0 {
		kind = m.Intn(forAny + 1)
	}
	if x, is := m.variable(kind, there); is && (m.Intn(3) == 0 || most <= 0 && m.Intn(2) == 0) {
		return x
	}
	if most <= 0 {
		return m.constant(kind)
	}
	most--
	switch m.Intn(11) {
	case 0:
		return form("if", m.term(forTruth, most, there), m.term(kind, most, there), m.term(kind, most, there))
	case 1, 2:
		return m.let(kind, most, there)
	case 3:
		return m.call(most, there)
	case 4:
		return form("seq", m.term(forAny, most, there), m.term(kind, most, there))
	case 5:
		return form(m.pick("car", "car", "cdr"), m.term(forList, most, there))
	case 6, 7:
		return m.use(kind, most, there)
	}
	return m.plain(kind, most, there)
}

// plain is a term that makes a value of that kind.
func (m maker) plain(kind, most int, there []named) string {
	sub := func(kind int) string { return m.term(kind, most, there) }
	switch kind {
	case forNumber:
		return form(m.pick("+", "-", "*", "*", "quotient", "remainder", "fold +"), sub(kind), sub(kind))
	case forTruth:
		switch m.Intn(4) {
		case 0:
			return form(m.pick("<", "="), sub(forNumber), sub(forNumber))
		case 1:
			return form("eq?", sub(forAny), sub(forAny))
		}
		return form(m.pick("null?", "pair?", "not", "integer?", "symbol?"), sub(forAny))
	case forList:
		switch m.Intn(5) {
		case 0:
			return form("map", sub(forFunction), sub(forList))
		case 1:
			return form("take", m.pick("0", "2", "3"), form("from", sub(forNumber)))
		}
		return form("cons", sub(forAny), sub(forList))
	case forFunction:
		return m.lambda(m.Intn(forAny), 1+m.Intn(3), most, there)
	}
	if m.Intn(12) == 0 {
		return form("error", sub(forAny))
	}
	return m.term(m.Intn(forAny), most, there)
}

func (m maker) lambda(kind, takes, most int, there []named) string {
	l := m.names(takes)
	return form("lambda", form(texts(l)...), m.term(kind, most, slices.Concat(there, l)))
}

// bindings are so many names with values, and what is there behind them.
func (m maker) bindings(most int, there []named, own bool) (string, []named) {
	l := m.names(1 + m.Intn(3))
	all, made := slices.Concat(there, l), []string{}
	if own {
		there = all
	}
	for _, x := range l {
		made = append(made, form(x.name, m.plain(x.kind, most, there)))
	}
	return form(made...), all
}

func (m maker) let(kind, most int, there []named) string {
	word := m.pick("let", "let", "letrec", "let*", "my-let")
	bindings, all := m.bindings(most, there, word == "letrec")
	return form(word, bindings, m.term(kind, most, all))
}

func (m maker) call(most int, there []named) string {
	parts := []string{m.term(forFunction, most, there)}
	for range 1 + m.Intn(3) {
		parts = append(parts, m.term(m.Intn(forAny), most, there))
	}
	return form(parts...)
}

// use is one of the forms that rules bring, or of rules of its own.
func (m maker) use(kind, most int, there []named) string {
	sub := func(kind int) string { return m.term(kind, most, there) }
	switch m.Intn(7) {
	case 0:
		return form(m.pick("or", "and"), sub(kind), sub(kind))
	case 1:
		return form("cond", form(sub(forTruth), sub(kind)), form("else", sub(kind)))
	case 2:
		return form("list", sub(forAny), sub(kind), sub(forAny))
	case 3:
		return form("twice", sub(forFunction))
	case 4:
		return form("let-syntax", "((own (syntax-rules () ((_) "+sub(kind)+") ((_ x) (cons x "+sub(kind)+")))))", m.pick("(own)", "(own "+sub(forAny)+")", "(let ((x 5)) (own x))"))
	case 5:
		if x, is := m.variable(forAny, there); is {
			y, _ := m.variable(forAny, there)
			return form("swap", x, y, sub(kind))
		}
	}
	return form("letrec-syntax", "((own (syntax-rules () ((_ x) x) ((_ x y ...) (seq x (own y ...))))))", form("own", sub(forAny), sub(kind)))
}

// text is a whole one.
func (m maker) text() string {
	most := 1 + m.Intn(5)
	s := forms + mapFold + takeFrom
	there := []named{{"input", forList}}
	for i := range m.Intn(4) {
		x := named{"d" + strconv.Itoa(i), m.Intn(forAny)}
		there = append(there, x)
		if x.kind == forFunction {
			l := m.names(1 + m.Intn(2))
			head := form(append([]string{x.name}, texts(l)...)...)
			s += form("define", head, m.term(m.Intn(forAny), most, slices.Concat(there, l))) + "\n"
			continue
		}
		s += form("define", x.name, m.plain(x.kind, most, there)) + m.pick("", "\n", " ; )\n")
	}
	return s + m.term(m.Intn(forAny+1), most, there)
}

// input is what is read, none or more.
func (m maker) input() (l []string) {
	for range m.Intn(4) {
		l = append(l, m.pick("0", "1", "2", "-1", "7", "12345678901234567890"))
	}
	return l
}

// spoilt is s with some bytes left out, put in, or others.
func (m maker) spoilt(s string) string {
	for range 1 + m.Intn(3) {
		at := m.Intn(len(s) + 1)
		end := min(len(s), at+m.Intn(3))
		s = s[:at] + m.pick("", "", "(", ")", "'", "x", " ", "1", "...", "#", "#t", "\x00", "é", "define", ";") + s[end:]
	}
	return s
}
