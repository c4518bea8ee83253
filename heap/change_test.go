package heap_test

import (
	"math"
	"slices"
	"testing"

	"thunk/api"
	"thunk/heap"
)

// some is a heap with an object of each tag: at 0, 2, 4, 7, 10, 12, 18.
func some(t *testing.T) *heap.Heap {
	t.Helper()
	h := heap.New(22)
	alloc(t, h, api.TInt, nil, []int{5})
	alloc(t, h, api.TAtom, nil, nil)
	alloc(t, h, api.TCon, []int{0, 2}, nil)
	alloc(t, h, api.TSel, []int{4}, []int{1})
	alloc(t, h, api.TInd, []int{4}, nil)
	alloc(t, h, api.TFun, []int{0, 12, 10}, []int{7, 4})
	alloc(t, h, api.TThunk, []int{18, 4}, []int{-1})
	if !slices.Equal(h.Objects(), objects()) || h.Used() != 22 {
		t.Fatalf("P1101: %v, %d used", h.Objects(), h.Used())
	}
	return h
}

func objects() []int { return []int{0, 2, 4, 7, 10, 12, 18} }

// others are addresses where some has no object.
func others() []int {
	return append(far(), 1, 3, 5, 6, 8, 9, 11, 13, 14, 15, 16, 17, 19, 20, 21, 22, 23)
}

// changed holds that h is as before, but for the one object.
func changed(t *testing.T, h *heap.Heap, before show, at int, want thing) {
	t.Helper()
	after := all(h)
	if !after.things[at+1].is(want) {
		t.Errorf("P1102: at %d is %v, not %v", at, after.things[at+1], want)
	}
	after.things[at+1], after.follow = before.things[at+1], before.follow
	if !after.is(before) {
		t.Errorf("P1102: more than %d has changed: %v, then %v", at, before, after)
	}
}

func unchanged(t *testing.T, h *heap.Heap, before show) {
	t.Helper()
	if !before.is(all(h)) {
		t.Errorf("P5: refused, but changed: %v, then %v", before, all(h))
	}
}

func TestSet(t *testing.T) {
	for _, at := range objects() {
		for i := range read(some(t), at).ptrs {
			for _, to := range objects() {
				h := some(t)
				before, want := all(h), read(h, at)
				want.ptrs[i] = to
				if !h.Set(at, i, to) {
					t.Errorf("P1102: Set(%d, %d, %d) is false", at, i, to)
				}
				changed(t, h, before, at, want)
			}
		}
	}
}

func TestSetRefused(t *testing.T) {
	h := some(t)
	before := all(h)
	refused := func(at, i, to int) {
		if h.Set(at, i, to) {
			t.Errorf("P1102: Set(%d, %d, %d) is true", at, i, to)
		}
		unchanged(t, h, before)
	}
	for _, at := range objects() {
		many := len(h.Ptrs(at))
		for _, i := range []int{-1, -2, math.MinInt, many, many + 1, 60, 255, 256, math.MaxInt, math.MaxInt - 1} {
			refused(at, i, 0)
			refused(at, i, at)
		}
		for _, to := range others() {
			refused(at, 0, to)
		}
	}
	for _, at := range others() {
		for _, i := range []int{-1, 0, 1, math.MaxInt, math.MinInt} {
			refused(at, i, 4)
			refused(at, i, at)
		}
	}
}

func TestOver(t *testing.T) {
	for _, at := range objects() {
		for _, to := range objects() {
			h := some(t)
			before := all(h)
			if h.Over(at, to) != (at != to) {
				t.Errorf("P1102: Over(%d, %d) is %v", at, to, at == to)
			}
			if at == to {
				unchanged(t, h, before)
			} else {
				changed(t, h, before, at, thing{api.TInd, []int{to}, nil})
			}
		}
	}
}

func TestOverRefused(t *testing.T) {
	h := some(t)
	before := all(h)
	for _, bad := range others() {
		for _, good := range objects() {
			if h.Over(bad, good) || h.Over(good, bad) || h.Over(bad, bad) {
				t.Errorf("P1102: Over of %d and %d is true", bad, good)
			}
			unchanged(t, h, before)
		}
	}
}

// TestOverKeeps: the words of what only leads on stay its, however many there were; it has one pointer, and may be changed further.
func TestOverKeeps(t *testing.T) {
	h := heap.New(400)
	for _, n := range []int{60, 0, 60, 1} {
		alloc(t, h, api.TFun, same(n, 0), same(n, 9))
	}
	before := h.Objects()
	if !slices.Equal(before, []int{0, 121, 123, 244}) || h.Used() != 247 {
		t.Fatalf("P1101: %v, %d used", before, h.Used())
	}
	for i, at := range before {
		next, second := before[(i+1)%4], before[(i+2)%4]
		if !h.Over(at, next) || !read(h, at).is(thing{api.TInd, []int{next}, nil}) {
			t.Errorf("P1102: over %d: %v", at, read(h, at))
		}
		if h.Set(at, 1, 0) || h.Set(at, -1, 0) || h.Over(at, at) || !h.Set(at, 0, at) || !read(h, at).is(thing{api.TInd, []int{at}, nil}) {
			t.Errorf("P1102: what only leads on has one pointer: %v", read(h, at))
		}
		if !h.Over(at, second) || !read(h, at).is(thing{api.TInd, []int{second}, nil}) {
			t.Errorf("P1102: over %d again: %v", at, read(h, at))
		}
	}
	if !slices.Equal(h.Objects(), before) || h.Used() != 247 {
		t.Errorf("P1102: Objects is %v, %d used", h.Objects(), h.Used())
	}
	if at := alloc(t, h, api.TCon, []int{0, 247}, nil); at != 247 {
		t.Errorf("P1101: the next one lies at %d", at)
	}
	for at := range 250 {
		if !slices.Contains(append(before, 247), at) {
			checkNone(t, h, at)
			refuse(t, h, api.TInd, []int{at}, nil)
		}
	}
}

func TestFollow(t *testing.T) {
	h := some(t)
	for _, x := range [][2]int{{0, 0}, {2, 2}, {4, 4}, {7, 7}, {10, 4}, {12, 12}, {18, 18}} {
		if got := h.Follow(x[0]); got != x[1] {
			t.Errorf("P1102: Follow(%d) is %d, not %d", x[0], got, x[1])
		}
	}
	checkNone(t, h, others()...)
	// 18 to 12 to 10 to 4; then 4 to 7: a TSel leads no further
	if !h.Over(12, 10) || !h.Over(18, 12) || h.Follow(18) != 4 || h.Follow(12) != 4 || h.Follow(10) != 4 {
		t.Errorf("P1102: Follow(18) is %d, of 12 %d, of 10 %d", h.Follow(18), h.Follow(12), h.Follow(10))
	}
	if !h.Over(4, 7) || h.Follow(18) != 7 || h.Follow(4) != 7 || h.Follow(7) != 7 {
		t.Errorf("P1102: Follow(18) is %d, of 4 %d", h.Follow(18), h.Follow(4))
	}
}

// chain is a heap of n that only lead on, each to the next one, the last one to that at that place; behind them, if that is n, one that is a TAtom.
func chain(t *testing.T, n, last int) *heap.Heap {
	t.Helper()
	h := heap.New(2*n + 2)
	for range n {
		alloc(t, h, api.TInd, []int{h.Used()}, nil)
	}
	alloc(t, h, api.TAtom, nil, nil)
	for i := range n {
		to := i + 1
		if to == n {
			to = last
		}
		if !h.Set(2*i, 0, 2*to) {
			t.Fatalf("P1102: Set(%d, 0, %d) is false", 2*i, 2*to)
		}
	}
	return h
}

// TestRounds: rows of each length, coming round at each place, from each place on.
func TestRounds(t *testing.T) {
	for n := 1; n < 24; n++ {
		for last := range n + 1 {
			h, want := chain(t, n, last), -1
			if last == n {
				want = 2 * n
			}
			for i := range n {
				if got := h.Follow(2 * i); got != want {
					t.Fatalf("P1102: of %d, the last one to %d: Follow(%d) is %d", n, last, 2*i, got)
				}
			}
			if got := h.Follow(2 * n); got != 2*n {
				t.Fatalf("P1102: Follow(%d) is %d", 2*n, got)
			}
		}
	}
}

// TestLongRounds: as long as there may be.
func TestLongRounds(t *testing.T) {
	const n = 499_999
	for _, x := range [][2]int{{n, 2 * n}, {0, -1}, {1, -1}, {n / 2, -1}, {n - 2, -1}, {n - 1, -1}} {
		h := chain(t, n, x[0])
		for _, at := range []int{0, 2, n - 1, 2*n - 2} {
			if got := h.Follow(at); got != x[1] {
				t.Errorf("P1102: the last one to %d: Follow(%d) is %d, not %d", x[0], at, got, x[1])
			}
		}
	}
}

// TestCutRound: what came round leads somewhere again, when it is written anew.
func TestCutRound(t *testing.T) {
	h := chain(t, 10, 3)
	if h.Follow(0) != -1 || h.Follow(8) != -1 {
		t.Errorf("P1102: Follow(0) is %d, of 8 %d", h.Follow(0), h.Follow(8))
	}
	if !h.Over(10, 20) {
		t.Error("P1102: Over(10, 20) is false")
	}
	for at := 0; at <= 20; at += 2 {
		if got := h.Follow(at); got != 20 {
			t.Errorf("P1102: Follow(%d) is %d", at, got)
		}
	}
	if !h.Over(20, 0) || h.Follow(20) != -1 || h.Follow(12) != -1 {
		t.Errorf("P1102: Follow(20) is %d, of 12 %d", h.Follow(20), h.Follow(12))
	}
}
