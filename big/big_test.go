package big_test

import (
	wide "math/big"
	"math/rand"
	"strconv"
	"strings"
	"testing"

	"thunk/api"
	"thunk/big"
)

var (
	nines   = strings.Repeat("9", api.MaxDigits)
	greater = "1" + strings.Repeat("0", api.MaxDigits) // one digit more than a number's text has
)

// power is 10 to the n.
func power(n int) string { return "1" + strings.Repeat("0", n) }

// value is what the library makes of a number's text.
func value(t *testing.T, s string) *wide.Int {
	t.Helper()
	n, is := new(wide.Int).SetString(s, 10)
	if !is {
		t.Fatalf("%q is no number", s)
	}
	return n
}

// digits is how many digits a number has.
func digits(n *wide.Int) int { return len(new(wide.Int).Abs(n).String()) }

// wrong are texts of no number.
var wrong = []string{"", "-", "-0", "00", "01", "-01", "--1", "+1", "+0", " 1", "1 ", "1\n", "1-", "1a", "a", "1.0", "1_0", "0x1", "1e3", "/", ":", "1/", "1:", "\x00", "1\x00", "\xff", "١", "１", greater, "-" + greater, "0" + nines, "-0" + nines, strings.Repeat("1", 100000), strings.Repeat("-", 300)}

func TestRightOfNumbers(t *testing.T) {
	for _, s := range []string{"0", "1", "9", "-1", "-9", "10", "-10", "100", "1234567890", "-1234567890", nines, "-" + nines, power(api.MaxDigits - 1), "-" + power(api.MaxDigits-1)} {
		if !big.Right(s) {
			t.Errorf("P101: Right(%q) is false", s)
		}
	}
}

func TestRightOfOthers(t *testing.T) {
	for _, s := range wrong {
		if big.Right(s) {
			t.Errorf("P101: Right(%q) is true", s)
		}
	}
}

// TestRightOfAllShort holds Right against the words of W1, for every text of up to three bytes of a few.
func TestRightOfAllShort(t *testing.T) {
	few := []string{"-", "0", "1", "9", "/", ":", "+"}
	texts := []string{""}
	for range 3 {
		for _, s := range texts {
			for _, b := range few {
				texts = append(texts, s+b)
			}
		}
	}
	for _, s := range texts {
		n, err := strconv.Atoi(s)
		if want := err == nil && strconv.Itoa(n) == s; big.Right(s) != want {
			t.Fatalf("P101: Right(%q) is %v", s, !want)
		}
	}
}

// smooth is that many digits, any.
func smooth(r *rand.Rand, n int) string {
	text := make([]byte, n)
	for i := range text {
		text[i] = byte('0' + r.Intn(10))
	}
	return string(text)
}

// rough is that many digits in long rows of 0 and of 9, on which carries and borrows run far.
func rough(r *rand.Rand, n int) string {
	text := ""
	for len(text) < n {
		text += strings.Repeat([]string{"0", "9", "1", "5"}[r.Intn(4)], 1+r.Intn(20))
		text += []string{"", "0", "9", "1"}[r.Intn(4)]
	}
	return text[:n]
}

// number is a number's text of up to that many digits.
func number(r *rand.Rand, most int) string {
	some := []func(*rand.Rand, int) string{smooth, rough}[r.Intn(2)]
	s := strings.TrimLeft(some(r, 1+r.Intn(most)), "0")
	if s == "" {
		return "0"
	}
	return []string{"", "-"}[r.Intn(2)] + s
}

// pairs calls try with many pairs of numbers of all lengths.
func pairs(try func(a, b string)) {
	r := rand.New(rand.NewSource(1))
	lengths := []int{1, 3, 9, 10, 18, 19, 27, 28, 100, 101, api.MaxDigits}
	for range 60000 {
		a := number(r, lengths[r.Intn(len(lengths))])
		b := number(r, lengths[r.Intn(len(lengths))])
		if r.Intn(20) == 0 {
			b = a
		}
		try(a, b)
	}
}

// edges are numbers at the bounds of digits, limbs and texts.
func edges() []string {
	list := []string{"0", "1", "2", "9", "10", nines, power(api.MaxDigits - 1), power(api.MaxDigits / 2), strings.Repeat("9", api.MaxDigits/2), strings.Repeat("9", api.MaxDigits/2+1)}
	for _, n := range []int{9, 18, 27, 99, 198} {
		list = append(list, strings.Repeat("9", n), power(n), power(n-1)+"1")
	}
	for _, s := range list[1:] {
		list = append(list, "-"+s)
	}
	return list
}

// checkNumber holds an answer against what it must be, which may have too many digits.
func checkNumber(t *testing.T, what, a, b string, want *wide.Int, got string, is bool) {
	t.Helper()
	text, fits := want.String(), digits(want) <= api.MaxDigits
	if !fits {
		text = ""
	}
	if got != text || is != fits {
		t.Fatalf("P101: %s(%s, %s) is %q, %v, not %q, %v", what, a, b, got, is, text, fits)
	}
}

// checkPair holds all that is asked of two numbers against the library.
func checkPair(t *testing.T, a, b string) {
	t.Helper()
	x, y := value(t, a), value(t, b)
	got, is := big.Add(a, b)
	checkNumber(t, "Add", a, b, new(wide.Int).Add(x, y), got, is)
	got, is = big.Sub(a, b)
	checkNumber(t, "Sub", a, b, new(wide.Int).Sub(x, y), got, is)
	got, is = big.Mul(a, b)
	checkNumber(t, "Mul", a, b, new(wide.Int).Mul(x, y), got, is)
	if got, want := big.Cmp(a, b), x.Cmp(y); got != want {
		t.Fatalf("P101: Cmp(%s, %s) is %d, not %d", a, b, got, want)
	}
	q, r, is := big.Quo(a, b)
	if y.Sign() == 0 {
		if q != "" || r != "" || is {
			t.Fatalf("P101, P4: Quo(%s, 0) is %q, %q, %v", a, q, r, is)
		}
		return
	}
	times, left := new(wide.Int).QuoRem(x, y, new(wide.Int))
	if q != times.String() || r != left.String() || !is {
		t.Fatalf("P101: Quo(%s, %s) is %q, %q, %v, not %s, %s", a, b, q, r, is, times, left)
	}
}

func TestNumbers(t *testing.T) {
	pairs(func(a, b string) { checkPair(t, a, b) })
}

func TestNumbersAtBounds(t *testing.T) {
	for _, a := range edges() {
		for _, b := range edges() {
			checkPair(t, a, b)
		}
	}
}

func TestSmallNumbers(t *testing.T) {
	for a := -25; a <= 25; a++ {
		for b := -25; b <= 25; b++ {
			checkPair(t, strconv.Itoa(a), strconv.Itoa(b))
		}
	}
}

// TestQuoAroundProducts divides what lies just below and above a product, where a quotient's digits are guessed wrong most easily.
func TestQuoAroundProducts(t *testing.T) {
	r := rand.New(rand.NewSource(2))
	for range 20000 {
		b := number(r, 120)
		product, is := big.Mul(number(r, 80), b)
		if !is || b == "0" {
			continue
		}
		for _, off := range []string{"-1", "0", "1"} {
			a, is := big.Add(product, off)
			if is {
				checkPair(t, a, b)
			}
		}
	}
}

func TestTooManyDigits(t *testing.T) {
	for _, c := range []struct {
		what string
		do   func(a, b string) (string, bool)
		a, b string
		want string // none: false
	}{
		{"Add", big.Add, nines, "0", nines},
		{"Add", big.Add, nines, "1", ""},
		{"Add", big.Add, nines, nines, ""},
		{"Add", big.Add, "-" + nines, "-1", ""},
		{"Add", big.Add, "-" + nines, nines, "0"},
		{"Sub", big.Sub, "-" + nines, "1", ""},
		{"Sub", big.Sub, nines, "-1", ""},
		{"Sub", big.Sub, "0", nines, "-" + nines},
		{"Sub", big.Sub, nines, nines, "0"},
		{"Mul", big.Mul, power(100), power(99), power(199)},
		{"Mul", big.Mul, power(100), power(100), ""},
		{"Mul", big.Mul, power(100), "-" + power(100), ""},
		{"Mul", big.Mul, nines, nines, ""},
		{"Mul", big.Mul, nines, "-1", "-" + nines},
		{"Mul", big.Mul, nines, "2", ""},
		{"Mul", big.Mul, "0", "-" + nines, "0"},
	} {
		got, is := c.do(c.a, c.b)
		if got != c.want || is != (c.want != "") {
			t.Errorf("P101: %s(%s, %s) is %q, %v", c.what, c.a, c.b, got, is)
		}
	}
}

func TestQuoRoundsTowardsZero(t *testing.T) {
	for _, c := range [][4]string{{"7", "2", "3", "1"}, {"-7", "2", "-3", "-1"}, {"7", "-2", "-3", "1"}, {"-7", "-2", "3", "-1"}, {"1", "2", "0", "1"}, {"-1", "2", "0", "-1"}, {"1", "-2", "0", "1"}, {"-6", "3", "-2", "0"}, {"0", "-3", "0", "0"}, {nines, nines, "1", "0"}, {nines, "-" + nines, "-1", "0"}, {nines, "1", nines, "0"}} {
		if q, r, is := big.Quo(c[0], c[1]); q != c[2] || r != c[3] || !is {
			t.Errorf("P101: Quo(%s, %s) is %s, %s, %v", c[0], c[1], q, r, is)
		}
	}
}

func TestCmpOrders(t *testing.T) {
	rising := []string{"-" + nines, "-" + power(18), "-10", "-9", "-1", "0", "1", "9", "10", "99", "999999999", "1000000000", power(18), power(199), nines}
	for i, a := range rising {
		for j, b := range rising {
			want := 0
			if i < j {
				want = -1
			} else if i > j {
				want = 1
			}
			if got := big.Cmp(a, b); got != want {
				t.Errorf("P101: Cmp(%s, %s) is %d", a, b, got)
			}
		}
	}
}

// TestWrongNumbers: no call panics, whatever text it is given; and beside a false there is nothing.
func TestWrongNumbers(t *testing.T) {
	texts := append([]string{"0", "1", "-1", nines}, wrong...)
	for _, a := range texts {
		for _, b := range texts {
			if big.Right(a) && big.Right(b) {
				continue
			}
			for _, do := range []func(a, b string) (string, bool){big.Add, big.Sub, big.Mul} {
				if s, is := do(a, b); s != "" || is {
					t.Errorf("P1, P4: of %.20q, %.20q: %q, %v", a, b, s, is)
				}
			}
			if q, r, is := big.Quo(a, b); q != "" || r != "" || is {
				t.Errorf("P1, P4: Quo(%.20q, %.20q) is %q, %q, %v", a, b, q, r, is)
			}
			if c := big.Cmp(a, b); c != 0 {
				t.Errorf("P1: Cmp(%.20q, %.20q) is %d", a, b, c)
			}
		}
	}
}

// TestSameAgain: nothing is kept from call to call.
func TestSameAgain(t *testing.T) {
	type answers struct {
		sum, less, product, q, r string
		cmp                      int
	}
	all := func() (list []answers) {
		for _, a := range edges() {
			for _, b := range edges() {
				var x answers
				x.sum, _ = big.Add(a, b)
				x.less, _ = big.Sub(a, b)
				x.product, _ = big.Mul(a, b)
				x.q, x.r, _ = big.Quo(a, b)
				x.cmp = big.Cmp(a, b)
				list = append(list, x)
			}
		}
		return list
	}
	first := all()
	for i, x := range all() {
		if x != first[i] {
			t.Fatalf("P3: call %d: %v, then %v", i, first[i], x)
		}
	}
}

// FuzzPair may be given more time by hand: go test -fuzz FuzzPair ./big
func FuzzPair(f *testing.F) {
	f.Add("1", "0")
	f.Add(nines, "-7")
	f.Add("-0", "12")
	f.Fuzz(func(t *testing.T, a, b string) {
		if big.Right(a) && big.Right(b) {
			checkPair(t, a, b)
			return
		}
		big.Add(a, b)
		big.Sub(a, b)
		big.Mul(a, b)
		big.Quo(a, b)
		big.Cmp(a, b)
	})
}
