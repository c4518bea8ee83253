package read_test

import (
	"math/rand"
	"reflect"
	"regexp"
	"slices"
	"strconv"
	"strings"
	"testing"

	"thunk/api"
	"thunk/datum"
	"thunk/read"
)

const allSigns = "abcdefghijklmnopqrstuvwxyz0123456789!?*<>=+-/._"

// integer, boolean, symbol, list are data that begin at a place.
func integer(at int, text string) api.Datum { return api.Datum{Kind: api.DInt, Text: text, At: at} }

func boolean(at int, text string) api.Datum { return api.Datum{Kind: api.DBool, Text: text, At: at} }

func symbol(at int, text string) api.Datum { return api.Datum{Kind: api.DSym, Text: text, At: at} }

func list(at int, parts ...api.Datum) api.Datum {
	return api.Datum{Kind: api.DList, L: parts, At: at}
}

// quoted is what a quote and a datum are.
func quoted(at int, d api.Datum) api.Datum { return list(at, symbol(at, "quote"), d) }

// equal tells whether two lists of data are one in all fields; none and an empty one are the same.
func equal(a, b []api.Datum) bool {
	return slices.EqualFunc(a, b, func(x, y api.Datum) bool {
		return x.Kind == y.Kind && x.Text == y.Text && x.At == y.At && len(x.Marks)+len(y.Marks) == 0 && equal(x.L, y.L)
	})
}

// short is a text as it is told where a test fails.
func short(s string) string {
	if len(s) > 300 {
		return strconv.Quote(s[:300]) + " .."
	}
	return strconv.Quote(s)
}

// checkData holds what a text is read as against what it must be.
func checkData(t *testing.T, s string, want ...api.Datum) {
	t.Helper()
	l, at, e := read.Read(s)
	if !equal(l, want) || at != 0 || e != api.OK {
		t.Fatalf("P301: Read(%s) is %+v, %d, %v, not %+v", short(s), l, at, e, want)
	}
}

// checkFault holds the error that a text has, and its place, against what they must be.
func checkFault(t *testing.T, s string, at int, e api.Errno) {
	t.Helper()
	l, gotAt, got := read.Read(s)
	if got != e || gotAt != at {
		t.Fatalf("P301: Read(%s) is %+v, %d, %v, not %d, %v", short(s), l, gotAt, got, at, e)
	}
	if len(l) > 0 {
		t.Fatalf("P4: Read(%s) is %+v beside %v", short(s), l, e)
	}
}

func TestNothing(t *testing.T) {
	for _, s := range []string{"", " ", "\t", "\n", "\n \t\n", ";", ";;", "; a (b", ";a\n", ";a\n ;b\n\t;c", ";\x00\xff\r'#\n"} {
		checkData(t, s)
	}
}

func TestData(t *testing.T) {
	checkData(t, "a", symbol(0, "a"))
	checkData(t, " a ", symbol(1, "a"))
	checkData(t, "a b\tc\nd", symbol(0, "a"), symbol(2, "b"), symbol(4, "c"), symbol(6, "d"))
	checkData(t, "()", list(0))
	checkData(t, "( \n)()", list(0), list(4))
	checkData(t, "(a)", list(0, symbol(1, "a")))
	checkData(t, "(a 1 #t)b", list(0, symbol(1, "a"), integer(3, "1"), boolean(5, "#t")), symbol(8, "b"))
	checkData(t, "(f(g 1)())", list(0, symbol(1, "f"), list(2, symbol(3, "g"), integer(5, "1")), list(7)))
	checkData(t, "a(b)c", symbol(0, "a"), list(1, symbol(2, "b")), symbol(4, "c"))
	checkData(t, "1(2)3", integer(0, "1"), list(1, integer(2, "2")), integer(4, "3"))
	checkData(t, "(define (f x)\n\t(* x -2))", list(0, symbol(1, "define"), list(8, symbol(9, "f"), symbol(11, "x")), list(15, symbol(16, "*"), symbol(18, "x"), integer(20, "-2"))))
}

func TestRemarks(t *testing.T) {
	checkData(t, "a;b\nc", symbol(0, "a"), symbol(4, "c"))
	checkData(t, "a;b", symbol(0, "a"))
	checkData(t, "(a;)\n)", list(0, symbol(1, "a")))
	checkData(t, "1;2\n;3\n\n4", integer(0, "1"), integer(8, "4"))
	checkData(t, "#t;\n#f;", boolean(0, "#t"), boolean(4, "#f"))
	checkData(t, "';'\n a", quoted(0, symbol(5, "a")))
	checkData(t, "a;;;;\n;\xe9\nb", symbol(0, "a"), symbol(9, "b"))
	checkData(t, "a;\tb c\rd\x00\ne", symbol(0, "a"), symbol(10, "e"))
}

func TestQuotes(t *testing.T) {
	checkData(t, "'a", quoted(0, symbol(1, "a")))
	checkData(t, " ' \n1", quoted(1, integer(4, "1")))
	checkData(t, "'#t'#f", quoted(0, boolean(1, "#t")), quoted(3, boolean(4, "#f")))
	checkData(t, "'()", quoted(0, list(1)))
	checkData(t, "'(a 'b)c", quoted(0, list(1, symbol(2, "a"), quoted(4, symbol(5, "b")))), symbol(7, "c"))
	checkData(t, "''a b", quoted(0, quoted(1, symbol(2, "a"))), symbol(4, "b"))
	checkData(t, "('a)", list(0, quoted(1, symbol(2, "a"))))
	checkData(t, "(a'b'c)", list(0, symbol(1, "a"), quoted(2, symbol(3, "b")), quoted(4, symbol(5, "c"))))
	checkData(t, "'quote", quoted(0, symbol(1, "quote")))
	checkData(t, "(quote a)", list(0, symbol(1, "quote"), symbol(7, "a")))
	checkData(t, "(quote)", list(0, symbol(1, "quote")))
	checkData(t, "'('('a))", quoted(0, list(1, quoted(2, list(3, quoted(4, symbol(5, "a")))))))
}

func TestBooleans(t *testing.T) {
	for _, s := range []string{"#t", "#f"} {
		checkData(t, s, boolean(0, s))
		checkData(t, s+s, boolean(0, s), boolean(2, s))
		checkData(t, s+"(a)", boolean(0, s), list(2, symbol(3, "a")))
		checkData(t, "("+s+")", list(0, boolean(1, s)))
		checkData(t, s+"'a", boolean(0, s), quoted(2, symbol(3, "a")))
		checkData(t, "a"+s+" a", symbol(0, "a"), boolean(1, s), symbol(4, "a"))
		checkFault(t, " "+s+"#", 3, api.ErrToken)
		for _, b := range []byte(allSigns) {
			checkFault(t, " "+s+string(b), 1, api.ErrToken)
			checkFault(t, "("+s+string(b)+"#t", 1, api.ErrToken)
		}
	}
	for _, s := range []string{"#", "# t", "##t", "#T", "#F", "#true", "#false", "#1", "#a", "#(", "#)", "#'a", "#;\nt", "#\nt", "#ft", "#tf", "#t.", "#f0"} {
		checkFault(t, s, 0, api.ErrToken)
		checkFault(t, "(a "+s, 3, api.ErrToken)
	}
}

func TestIntegers(t *testing.T) {
	for s, want := range map[string]string{"0": "0", "5": "5", "10": "10", "-1": "-1", "-10": "-10", "00": "0", "-0": "0", "-00": "0", "007": "7", "-007": "-7", "0100": "100", "-0100": "-100", "12345678901234567890": "12345678901234567890"} {
		checkData(t, s, integer(0, want))
		checkData(t, "("+s+" "+s+")", list(0, integer(1, want), integer(2+len(s), want)))
		checkData(t, "'"+s+";", quoted(0, integer(1, want)))
	}
}

func TestDigits(t *testing.T) {
	nines, zeros := strings.Repeat("9", api.MaxDigits), strings.Repeat("0", api.MaxDigits)
	for s, want := range map[string]string{nines: nines, "-" + nines: "-" + nines, "0" + nines: nines, "-0" + nines: "-" + nines, zeros + nines: nines, zeros + "0": "0", "-" + zeros + "0": "0", zeros + zeros + "7": "7", "-" + zeros + zeros + "7": "-7"} {
		checkData(t, s, integer(0, want))
	}
	for _, s := range []string{nines + "9", "-" + nines + "9", "1" + zeros, "-1" + zeros, "01" + zeros, "-01" + zeros, strings.Repeat("1", api.MaxSource-1)} {
		checkFault(t, " "+s, 1, api.ErrToken)
	}
	checkFault(t, "(a "+nines+"0)", 3, api.ErrToken)
	checkData(t, nines+" "+nines, integer(0, nines), integer(api.MaxDigits+1, nines))
}

func TestNames(t *testing.T) {
	long := strings.Repeat("a", api.MaxSource)
	for _, s := range []string{"a", "z", "az", "a1", "-", "--", "--1", "-a", "-1a", "-1-", "-1.", "-1+1", "+", "+1", "+-1", ".", "..", "...", ".1", "a.1", "_", "_1", "!", "?", "*", "<", ">", "=", "<=", "/", "null?", "set!", "let-syntax", "quote", allSigns, long, "-" + long[1:], "+" + strings.Repeat("1", api.MaxSource-1)} {
		checkData(t, s, symbol(0, s))
	}
	for _, b := range []byte(allSigns) {
		s := "a" + string(b) + string(b)
		checkData(t, s, symbol(0, s))
		checkData(t, "-1"+string(b)+"a", symbol(0, "-1"+string(b)+"a"))
	}
}

func TestRowsOfNoDatum(t *testing.T) {
	for _, s := range []string{"1a", "1-", "1-1", "1.", "1.0", "1+", "0x1", "00a", "1_0", "9!", "9?", "5...", "1" + strings.Repeat("a", 300), strings.Repeat("1", 300) + "a"} {
		checkFault(t, s, 0, api.ErrToken)
		checkFault(t, "(a '"+s+" #", 4, api.ErrToken)
		checkData(t, "-"+s, symbol(0, "-"+s))
	}
}

// TestEachByte: what a byte is by itself, and behind each that may stand ahead of it.
func TestEachByte(t *testing.T) {
	for n := range 256 {
		s := string([]byte{byte(n)})
		switch {
		case strings.Contains("\t\n ;", s):
			checkData(t, s)
			checkData(t, "a"+s, symbol(0, "a"))
		case s == "(" || s == "'":
			checkFault(t, s, 1, api.ErrEnd)
		case s == ")":
			checkFault(t, s, 0, api.ErrClose)
		case strings.Contains("0123456789", s):
			checkData(t, s, integer(0, s))
			checkData(t, "a"+s, symbol(0, "a"+s))
		case strings.Contains(allSigns, s):
			checkData(t, s, symbol(0, s))
			checkFault(t, "1"+s, 0, api.ErrToken)
		default:
			checkFault(t, s, 0, api.ErrToken)
			checkFault(t, "a"+s, 1, api.ErrToken)
			checkFault(t, "1"+s, 1, api.ErrToken)
			checkFault(t, "-"+s, 1, api.ErrToken)
			checkFault(t, "(' "+s, 3, api.ErrToken)
			checkFault(t, "#t"+s, 2, api.ErrToken)
			checkData(t, ";"+s+"\na", symbol(3, "a"))
		}
	}
}

func TestTokenFaults(t *testing.T) {
	isSign := func(r rune) bool { return strings.ContainsRune(allSigns, r) }
	for _, s := range []string{"A", "aB", "a\rb", "\r\n", "\x00", "\xff", "é", "\"a\"", "[a]", "a|b", "`a", ",a", "a,b", "a:b", "\v", "\f", "\u00a0", "{}", "a@", "$", "%", "&", "^", "~", "\\"} {
		checkFault(t, " ("+s, 2+len(s)-len(strings.TrimLeftFunc(s, isSign)), api.ErrToken)
	}
}

func TestCloses(t *testing.T) {
	for s, at := range map[string]int{")": 0, " )": 1, "())": 2, "(a))b": 3, "a)": 1, "')": 1, "' )": 2, "(')": 2, "(')a)": 2, "('a '))": 5, "'()'x)": 5, "'')": 2, ";)\n)": 3, "(a ';b\n )": 8} {
		checkFault(t, s, at, api.ErrClose)
	}
}

func TestEnds(t *testing.T) {
	for _, s := range []string{"(", "'", "((", "(a", "(a ", "(()", "''", "'(", "('", "('a", "'(a 'b", "a (b)(", "a '", "(;)", "(a;)\n", "'\n\n", "(#t", "(1", "' ;a", "(a (b c) (d"} {
		checkFault(t, s, len(s), api.ErrEnd)
	}
}

// TestFirstFault: a text is read from left to right, and so of its faults the first one is told.
func TestFirstFault(t *testing.T) {
	deep := strings.Repeat("(", api.MaxDeep+1)
	checkFault(t, ") #", 0, api.ErrClose)
	checkFault(t, "# )", 0, api.ErrToken)
	checkFault(t, "1a)", 0, api.ErrToken)
	checkFault(t, "('))#", 2, api.ErrClose)
	checkFault(t, deep+"#", api.MaxDeep, api.ErrDeep)
	checkFault(t, "#"+deep, 0, api.ErrToken)
	checkFault(t, deep[1:]+"'#", api.MaxDeep, api.ErrDeep)
	checkFault(t, deep[1:]+"#(", api.MaxDeep, api.ErrToken)
	checkFault(t, ")"+deep, 0, api.ErrClose)
	checkFault(t, "(a B", 3, api.ErrToken)
	checkFault(t, strings.Repeat("#", api.MaxSource), 0, api.ErrToken)
	checkFault(t, strings.Repeat("#", api.MaxSource+1), 0, api.ErrLong)
	checkFault(t, strings.Repeat("(", api.MaxSource+1), 0, api.ErrLong)
}

func TestLength(t *testing.T) {
	for _, s := range []string{" ", "a", ";", "(", "\n", "é", "\x00", "'"} {
		all := strings.Repeat(s, api.MaxSource)
		if _, _, e := read.Read(all[:api.MaxSource]); e == api.ErrLong {
			t.Errorf("P301: 8000 bytes of %q are too long", s)
		}
		checkFault(t, all[:api.MaxSource]+" ", 0, api.ErrLong)
		checkFault(t, strings.Repeat(all, 20), 0, api.ErrLong)
	}
	s := strings.Repeat(" ", api.MaxSource-1) + "a"
	checkData(t, s, symbol(api.MaxSource-1, "a"))
	checkFault(t, s+"a", 0, api.ErrLong)
	checkFault(t, strings.Repeat("a ", api.MaxSource/2)+";", 0, api.ErrLong)
}

func TestDepth(t *testing.T) {
	r := rand.New(rand.NewSource(1))
	for range 300 {
		begun, ended := "", ""
		for range api.MaxDeep {
			k := r.Intn(2)
			begun += []string{"(", "'"}[k]
			ended = []string{")", ""}[k] + ended
		}
		for _, inner := range []string{"a", "1", "#t"} {
			l, at, e := read.Read(begun + inner + ended + " " + begun + inner + ended)
			if len(l) != 2 || at != 0 || e != api.OK {
				t.Fatalf("P301: Read of %s is %d data, %d, %v", begun, len(l), at, e)
			}
		}
		for _, inner := range []string{"(", "'", "()", "'a", "((", "(a)b"} {
			checkFault(t, begun+inner+ended, api.MaxDeep, api.ErrDeep)
			checkFault(t, "a (b)'c "+begun+inner+ended, 8+api.MaxDeep, api.ErrDeep)
		}
	}
	open := strings.Repeat("(", api.MaxDeep-1)
	checkFault(t, open+"()'a()'a(a)''a", len(open)+12, api.ErrDeep)
	l, _, e := read.Read(open + "()'a()'a(a)'a 'a" + strings.Repeat(")", api.MaxDeep-1))
	if len(l) != 1 || e != api.OK {
		t.Fatalf("P301: many side by side: %v", e)
	}
}

// slow reads by another way, to be held against: what does not count and what counts are cut by patterns, and lists within lists read by calls within calls.
type slow struct {
	s  string
	at int
}

// fault is how slow gives up.
type fault struct {
	at int
	e  api.Errno
}

var (
	gaps     = regexp.MustCompile(`^(?:[\t\n ]|;[^\n]*(?:\n|$))*`)
	pieces   = regexp.MustCompile(`^(?:[()']|#[tf]|[a-z0-9!?*<>=+\-/._]+)`)
	sign     = regexp.MustCompile(`^[a-z0-9!?*<>=+\-/._]`)
	numerals = regexp.MustCompile(`^(-?)0*([0-9]{1,200})$`)
)

// gap, piece go over what they find.
func (x *slow) gap() {
	x.at += len(gaps.FindString(x.s[x.at:]))
}

func (x *slow) piece() string {
	p := pieces.FindString(x.s[x.at:])
	if p == "" || strings.HasPrefix(p, "#") && sign.MatchString(x.s[x.at+2:]) {
		panic(fault{x.at, api.ErrToken})
	}
	return p
}

// row is the piece that stands there, if it is no list.
func (x *slow) row(p string) api.Datum {
	at := x.at
	x.at += len(p)
	m := numerals.FindStringSubmatch(p)
	switch {
	case p[0] == '#':
		return boolean(at, p)
	case m != nil && m[2] == "0":
		return integer(at, "0")
	case m != nil:
		return integer(at, m[1]+m[2])
	case p[0] >= '0' && p[0] <= '9', p[0] == '-' && len(p) > 1 && strings.Trim(p[1:], "0123456789") == "":
		panic(fault{at, api.ErrToken})
	}
	return symbol(at, p)
}

// datum is the next one; false, if there stands what ends a list, or the end.
func (x *slow) datum(deep int) (api.Datum, bool) {
	x.gap()
	if x.at == len(x.s) || x.s[x.at] == ')' {
		return api.Datum{}, false
	}
	at, p := x.at, x.piece()
	if p != "(" && p != "'" {
		return x.row(p), true
	}
	if deep == api.MaxDeep {
		panic(fault{at, api.ErrDeep})
	}
	x.at++
	if p == "'" {
		d, is := x.datum(deep + 1)
		if !is {
			x.stuck()
		}
		return quoted(at, d), true
	}
	l := x.data(deep + 1)
	if x.at == len(x.s) {
		x.stuck()
	}
	x.at++
	return list(at, l...), true
}

// stuck tells that no datum stands there, and no end that may.
func (x *slow) stuck() {
	if x.at == len(x.s) {
		panic(fault{x.at, api.ErrEnd})
	}
	panic(fault{x.at, api.ErrClose})
}

// data are all up to what ends them.
func (x *slow) data(deep int) (l []api.Datum) {
	for {
		d, is := x.datum(deep)
		if !is {
			return l
		}
		l = append(l, d)
	}
}

// slowly is what Read must be, of a text that is not too long.
func slowly(s string) (l []api.Datum, at int, e api.Errno) {
	defer func() {
		if f, is := recover().(fault); is {
			l, at, e = nil, f.at, f.e
		}
	}()
	x := &slow{s: s}
	l = x.data(0)
	if x.at < len(s) {
		x.stuck()
	}
	return l, 0, api.OK
}

// checkText holds all that is promised of a text.
func checkText(t *testing.T, s string) {
	t.Helper()
	if len(s) > api.MaxSource {
		checkFault(t, s, 0, api.ErrLong)
		return
	}
	want, at, e := slowly(s)
	if e != api.OK {
		checkFault(t, s, at, e)
		return
	}
	checkData(t, s, want...)
	checkAgain(t, want)
}

// written is data, parted by blanks.
func written(l []api.Datum) string {
	var texts []string
	for _, d := range l {
		texts = append(texts, datum.Text(d))
	}
	return strings.Join(texts, " ")
}

// checkAgain: what is written is read as these data.
func checkAgain(t *testing.T, l []api.Datum) {
	t.Helper()
	s := written(l)
	if len(s) > api.MaxSource {
		return
	}
	got, at, e := read.Read(s)
	if !slices.EqualFunc(got, l, datum.Same) || at != 0 || e != api.OK {
		t.Fatalf("P302: Read(%s) is %+v, %d, %v, not %+v", short(s), got, at, e, l)
	}
}

// some is a text of so many pieces, of which many begin, end or part something.
func some(r *rand.Rand, n int, pieces ...string) string {
	var s strings.Builder
	for range n {
		s.WriteString(pieces[r.Intn(len(pieces))])
	}
	return s.String()
}

func TestSomeTexts(t *testing.T) {
	r := rand.New(rand.NewSource(2))
	right := []string{"(", "(", ")", ")", ")", "'", " ", " ", "\n", "\t", ";", ";a\n", "#t", "#f ", "1", "0", "-", "a", "b", ".", "+", "quote "}
	wrong := append(slices.Clone(right), "#", "A", "\r", "\x00", "é", "\"", "1a")
	for range 100000 {
		checkText(t, some(r, r.Intn(14), right...))
		checkText(t, some(r, r.Intn(14), wrong...))
	}
	for range 300 {
		checkText(t, some(r, r.Intn(3000), "(a", "(", ")", "'", " ", "b", ";c\n", "1 ", ") "))
		checkText(t, some(r, r.Intn(6000), right...))
		checkText(t, some(r, r.Intn(500), "(", "'", "(", "'", "(", ")", "a"))
		checkText(t, some(r, r.Intn(450), "0", "1", "9"))
	}
}

func TestAllShortTexts(t *testing.T) {
	few := []string{"(", ")", "'", " ", ";", "\n", "#", "t", "0", "1", "-", "A"}
	texts := []string{""}
	for n := 0; n < len(texts); n++ {
		checkText(t, texts[n])
		if len(texts[n]) < 5 {
			for _, b := range few {
				texts = append(texts, texts[n]+b)
			}
		}
	}
}

// anyOf is some datum as it may be read, within so many others at most.
func anyOf(r *rand.Rand, most int) api.Datum {
	kind := r.Intn(6)
	switch {
	case kind == 0:
		return boolean(0, []string{"#t", "#f"}[r.Intn(2)])
	case kind == 1:
		return integer(0, strconv.Itoa(r.Intn(2001)-1000))
	case kind == 2 || most == 0:
		return symbol(0, some(r, 1, "-", ".", "_", "a", "x", "!")+some(r, r.Intn(4), "a", "0", "?")+"z")
	case kind == 3:
		return quoted(0, anyOf(r, most-1))
	}
	d := list(0)
	for range r.Intn(5) {
		d.L = append(d.L, anyOf(r, most-1))
	}
	return d
}

func TestWrittenIsReadAgain(t *testing.T) {
	r := rand.New(rand.NewSource(3))
	for range 5000 {
		var l []api.Datum
		for range r.Intn(4) {
			l = append(l, anyOf(r, r.Intn(6)))
		}
		checkAgain(t, l)
	}
	d := quoted(0, symbol(0, "x"))
	for range api.MaxDeep - 1 {
		checkAgain(t, []api.Datum{d, d})
		d = list(0, integer(0, "-7"), d)
	}
	checkAgain(t, []api.Datum{d, boolean(0, "#f"), integer(0, strings.Repeat("9", api.MaxDigits)), integer(0, "-"+strings.Repeat("9", api.MaxDigits))})
}

// right is the data of a text that has no fault.
func right(t *testing.T, s string) []api.Datum {
	t.Helper()
	l, _, e := read.Read(s)
	if e != api.OK {
		t.Fatalf("P301: Read(%s): %v", short(s), e)
	}
	return l
}

// lists is l, and each list within it.
func lists(l []api.Datum) [][]api.Datum {
	all := [][]api.Datum{l}
	for _, d := range l {
		all = append(all, lists(d.L)...)
	}
	return all
}

// spoil writes over some data.
func spoil(l []api.Datum) {
	for i := range l {
		l[i] = api.Datum{Kind: 50, Text: "spoilt", Marks: []int{50}}
	}
}

const many = "a (b (c d e) f (g) h i j) 'k ''(l 'm n) () (() o) (p q r s t u v w x y z) 1"

// TestRoomApart: what is written into the spare room of one list is seen nowhere, and nothing stands there.
func TestRoomApart(t *testing.T) {
	got, want := right(t, many), right(t, many)
	for _, l := range lists(got) {
		room := l[len(l):cap(l)]
		for _, d := range room {
			if !reflect.DeepEqual(d, api.Datum{}) {
				t.Errorf("P2: spare room holds %+v", d)
			}
		}
		spoil(room)
		if !equal(got, want) {
			t.Fatalf("P2: the spare room of %+v is shared", l)
		}
	}
}

// TestListsApart: what is written over one list is seen in no other, and in no other answer.
func TestListsApart(t *testing.T) {
	count := len(lists(right(t, many)))
	for n := range count {
		got, want := right(t, many), right(t, many)
		all, must := lists(got), lists(want)
		spoil(all[n])
		for i := range all {
			for k := range all[i] {
				if i != n && all[i][k].Text != must[i][k].Text {
					t.Errorf("P2: lists %d and %d share memory", n, i)
				}
			}
		}
		if !equal(want, right(t, many)) {
			t.Errorf("P2: two answers share list %d", n)
		}
	}
}

// TestSameAgain: nothing is kept from call to call.
func TestSameAgain(t *testing.T) {
	type answer struct {
		l  []api.Datum
		at int
		e  api.Errno
	}
	all := func() (got []answer) {
		r := rand.New(rand.NewSource(4))
		for range 5000 {
			l, at, e := read.Read(some(r, r.Intn(20), "(", ")", ")", "'", " ", "a", "1", "#t", "A"))
			got = append(got, answer{l, at, e})
		}
		return got
	}
	first := all()
	for i, x := range all() {
		if !reflect.DeepEqual(x, first[i]) {
			t.Fatalf("P3: call %d: %v, then %v", i, first[i], x)
		}
	}
}

// FuzzRead may be given more time by hand: go test -fuzz FuzzRead ./read
func FuzzRead(f *testing.F) {
	for _, s := range []string{"", "(define (f x) ; a remark\n '(x . -12 #t))", "')", "((", "1a", "#t#f", "\xff"} {
		f.Add(s)
	}
	f.Fuzz(func(t *testing.T, s string) { checkText(t, s) })
}
