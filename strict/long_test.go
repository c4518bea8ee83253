package strict_test

import (
	"runtime/debug"
	"slices"
	"testing"

	"thunk/api"
	"thunk/strict"
)

// smallStack has calls within calls end early, till the test does.
func smallStack(t *testing.T) {
	before := debug.SetMaxStack(16 << 20)
	t.Cleanup(func() { debug.SetMaxStack(before) })
}

// TestLong: P1: a long chain of lets makes no call within a call for each of them, and what its last part demands is told, whatever stands between.
func TestLong(t *testing.T) {
	smallStack(t)
	for i, c := range []struct {
		value func(i int) api.Expr
		want  []string
	}{
		{func(i int) api.Expr { return prim("not", variable("y")) }, []string{"y", "z"}},
		{func(i int) api.Expr { return variable(numbered("v", i+1)) }, []string{numbered("v", wide), "z"}},
		{func(i int) api.Expr { return lambda(variable("y"), numbered("x", i)) }, []string{"z"}},
	} {
		e := prim("+", variable("v0"), variable("z"))
		for j := range wide {
			e = let(numbered("v", j), c.value(j), e)
		}
		if got, all := strict.Demands(e, nil); !slices.Equal(got, c.want) || all {
			t.Errorf("P801: %d: Demands of a long one is %q", i, got)
		}
		e = let("f", lambda(e, "y", "z"), variable("f"))
		needs := strict.Needs(e)
		if of := needs[0].Of; of[0] != (i == 0) || !of[1] {
			t.Errorf("P802: %d: Needs of a long one is %v", i, of)
		}
		if i == 2 && (len(needs) != wide+1 || needs[wide].Name != "v0" || needs[wide].Of[0]) {
			t.Errorf("P802: Needs of many functions, one behind the other: %d", len(needs))
		}
	}
}
