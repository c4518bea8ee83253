package core_test

import (
	"runtime/debug"
	"slices"
	"strconv"
	"strings"
	"testing"

	"thunk/api"
	"thunk/core"
)

// long is how many lets are one the last part of the other: an application that rules made may have as many arguments.
const long = 200000

// smallStack has calls within calls end early, till the test does.
func smallStack(t *testing.T) {
	before := debug.SetMaxStack(16 << 20)
	t.Cleanup(func() { debug.SetMaxStack(before) })
}

// TestLong: P1: a long chain of lets makes no call within a call for each of them.
func TestLong(t *testing.T) {
	smallStack(t)
	e, wrong := app(variable("x0"), variable("out")), variable("")
	var heads []string
	for i := range long {
		name := "x" + strconv.Itoa(i%1000)
		e, wrong = let(name, variable("y"), e), let(name, variable("y"), wrong)
		heads = append(heads, "(let (("+name+" y)) ")
	}
	slices.Reverse(heads)
	if core.Text(e) != strings.Join(heads, "")+"(x0 out)"+strings.Repeat(")", long) {
		t.Error("P502: Text of a long one")
	}
	if got := core.Free(e); !slices.Equal(got, []string{"out", "y"}) {
		t.Errorf("P502: Free of a long one is %q", got)
	}
	if got := core.Size(e); got != 2*long+3 {
		t.Errorf("P502: Size of a long one is %d", got)
	}
	if !core.Right(e) || core.Right(wrong) {
		t.Error("P501: Right of a long one")
	}
	many := api.Expr{Kind: api.ENil}
	for range long {
		many = prim("cons", variable("y"), many)
	}
	if !core.Right(many) || core.Size(many) != 2*long+1 || len(core.Free(many)) != 1 {
		t.Error("P501, P502: a long list")
	}
}
