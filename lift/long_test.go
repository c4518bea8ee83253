package lift_test

import (
	"runtime/debug"
	"slices"
	"strings"
	"testing"

	"thunk/api"
	"thunk/core"
	"thunk/lift"
	"thunk/norm"
)

// smallStack has calls within calls end early, till the test does.
func smallStack(t *testing.T) {
	before := debug.SetMaxStack(16 << 20)
	t.Cleanup(func() { debug.SetMaxStack(before) })
}

// TestLong: P1: what is lifted of applications of very many arguments makes no call within a call for each of them: functions among these, and what is named by the last step.
func TestLong(t *testing.T) {
	smallStack(t)
	y, input := variable("y"), variable("input")
	for i, c := range []struct {
		argument func(i int) api.Expr
		sups     int
		size     int // of Main
		text     string
	}{
		{func(i int) api.Expr { return app(input, y) }, 0, 5 + 5*wide, "(let ((%.1 (input y))) (let ((%.2 (input y))) "},
		{func(i int) api.Expr { return lambda(variable(numbered("x", i)), numbered("x", i)) }, wide, 5 + wide, "(input y %.1 %.2 %.3 "},
		{func(i int) api.Expr { return lambda(y, numbered("x", i)) }, wide, 5 + 5*wide, "(let ((%p.1 (%.1 y))) (let ((%p.2 (%.2 y))) "},
	} {
		e := app(input, y)
		for i := range wide {
			e.A = append(e.A, c.argument(i))
		}
		e = let("y", integer("1"), norm.Norm(e))
		if i == 0 {
			e.A[1] = norm.Norm(e.A[1])
		}
		p := lift.Lift(e)
		if len(p.Sups) != c.sups || core.Size(p.Main) != c.size || !lift.Right(p) {
			t.Errorf("P902: %d: Lift of a long one: %d Sups, Size %d", i, len(p.Sups), core.Size(p.Main))
		}
		lines := strings.Split(lift.Text(p), "\n")
		if got := strings.TrimPrefix(lines[len(p.Sups)], "(let ((y 1)) "); !strings.HasPrefix(got, c.text) {
			t.Errorf("P902: %d: Lift of a long one begins with %s", i, got[:min(len(got), 100)])
		}
	}
	e := let("y", integer("1"), y)
	for i := range wide {
		e = let(numbered("f", i), lambda(y, numbered("x", i)), e)
	}
	if p := lift.Lift(e); len(p.Sups) != wide || core.Text(p.Main) != "(let ((y 1)) y)" || !slices.Equal(p.Sups[0].Params, []string{"y", numbered("x", wide-1)}) {
		t.Error("P902: Lift of a long row of functions alone")
	}
}
