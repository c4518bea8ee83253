package read

import (
	"strings"

	"thunk/api"
	"thunk/big"
)

const (
	blanks = "\t\n "
	digits = "0123456789"
	signs  = "abcdefghijklmnopqrstuvwxyz" + digits + "!?*<>=+-/._"
)

// gap is how many of the bytes that s begins with do not count.
func gap(s string) int {
	remark := false
	for i := range len(s) {
		remark = s[i] == ';' || remark && s[i] != '\n'
		if !remark && strings.IndexByte(blanks, s[i]) < 0 {
			return i
		}
	}
	return len(s)
}

// row is how many of the bytes that s begins with are among those of set.
func row(s, set string) int {
	n := 0
	for n < len(s) && strings.IndexByte(set, s[n]) >= 0 {
		n++
	}
	return n
}

// token is the datum, no list, that s begins with, and how long it is there: 0, if there is none.
func token(s string) (api.Datum, int) {
	if strings.HasPrefix(s, "#") {
		return boolean(s)
	}
	long := row(s, signs)
	text := strings.Clone(s[:long]) // lest a name keeps all of the text that it was read from
	kind := api.DSym
	switch {
	case long == 0:
		return api.Datum{}, 0
	case numeral(text):
		kind, text = api.DInt, number(text)
		if !big.Right(text) {
			return api.Datum{}, 0
		}
	case row(text, digits) > 0:
		return api.Datum{}, 0
	}
	return api.Datum{Kind: kind, Text: text}, long
}

// boolean is the #t or #f that s begins with.
func boolean(s string) (api.Datum, int) {
	for _, text := range [...]string{"#t", "#f"} {
		if rest, is := strings.CutPrefix(s, text); is && row(rest, signs) == 0 {
			return api.Datum{Kind: api.DBool, Text: text}, len(text)
		}
	}
	return api.Datum{}, 0
}

// numeral tells whether text is digits, or - and digits: other than a number's text, it may begin with zeros, and be long.
func numeral(text string) bool {
	text = strings.TrimPrefix(text, "-")
	return len(text) > 0 && row(text, digits) == len(text)
}

// number is what a numeral's number is written like.
func number(text string) string {
	size := strings.TrimLeft(strings.TrimPrefix(text, "-"), "0")
	switch {
	case size == "":
		return "0"
	case text[0] == '-':
		return "-" + size
	}
	return size
}
