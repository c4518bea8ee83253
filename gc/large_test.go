package gc_test

import (
	"testing"

	"thunk/api"
	"thunk/heap"
)

const most = 1_000_000 // words of a heap

// row is a heap of so many that only lead on, each to the one ahead of it, the first one to itself; and of what points to all of these, from the last or from the first one on.
func row(t *testing.T, n int, last bool) (h *heap.Heap, roots []int) {
	t.Helper()
	h = heap.New(most)
	alloc(t, h, api.TAtom, nil)
	for i := range n {
		alloc(t, h, api.TInd, []int{2 * i})
	}
	ptrs := []int{}
	for i := range n {
		at := 2 * (i + 1)
		if last {
			at = 2 * (n - i)
		}
		if ptrs = append(ptrs, at); len(ptrs) == 60 || i == n-1 {
			roots = append(roots, alloc(t, h, api.TFun, ptrs))
			ptrs = nil
		}
	}
	return h, roots
}

// TestLongRow: each place of a long row of what only leads on is led to; the row is not gone through for each.
func TestLongRow(t *testing.T) {
	const n = 300_000
	for _, last := range []bool{false, true} {
		h, roots := row(t, n, last)
		l, to := collect(t, h, 20, roots...)
		if len(l.things) != len(roots)+1 || l.used != 2+61*len(roots) || to.Tag(61) != api.TFun || to.Tag(l.roots[0]+61*len(roots)) != api.TAtom {
			t.Errorf("P1201: of a row of %d are left %d, %d words", n, len(l.things), l.used)
		}
		h, roots = row(t, n, last)
		if !h.Set(2, 0, 2) || !h.Over(0, 2*n) {
			t.Fatal("P1102: Set, Over")
		}
		if l, _ := collect(t, h, 20, roots...); len(l.things) != len(roots)+n {
			t.Errorf("P1201: of a row of %d that comes round are left %d", n, len(l.things)-len(roots))
		}
	}
}

// TestFull: as many objects as there may be, each in 2 words.
func TestFull(t *testing.T) {
	h := heap.New(most)
	alloc(t, h, api.TAtom, nil)
	for h.Used() < most {
		alloc(t, h, api.TThunk, []int{h.Used() - 2})
	}
	for _, deep := range []int{0, 20} {
		l, _ := collect(t, h, deep, most-2)
		if len(l.things) != most/2 || l.used != most || l.things[most/2-1].tag != api.TAtom || l.things[5].ptrs[0] != 12 {
			t.Errorf("P1201: %d are left in %d words", len(l.things), l.used)
		}
	}
}

// TestManyPicks: what picks of what picks, as long a row as there may be: each of them is a root.
func TestManyPicks(t *testing.T) {
	h := heap.New(most)
	at, roots := alloc(t, h, api.TAtom, nil), []int(nil)
	for h.Used()+3 <= most {
		at = alloc(t, h, api.TSel, []int{at}, 1)
		roots = append(roots, at)
	}
	for _, deep := range []int{1, 20} {
		if l, _ := collect(t, h, deep, roots...); len(l.things) != len(roots)+1 {
			t.Errorf("P1201: of %d that pick are left %d", len(roots), len(l.things))
		}
	}
}

// TestDoubled: to find the pair that one picks of, and to find what is picked, what picks must be looked behind both times, and so on: these are thousands of ways, which are not all gone for each root.
func TestDoubled(t *testing.T) {
	h := heap.New(most)
	atom, pairs := alloc(t, h, api.TAtom, nil), []int(nil)
	for range 24 {
		pairs = append(pairs, alloc(t, h, api.TCon, []int{atom, atom}))
	}
	// Each picks of pairs[step], in the end: the one comes to pairs[step + 1], the other one to the pair behind that.
	one, other := pairs[0], pairs[1]
	for step := range 19 {
		h.Set(pairs[step], 0, other)
		h.Set(pairs[step], 1, pairs[step+2])
		one, other = alloc(t, h, api.TSel, []int{one}, 0), alloc(t, h, api.TSel, []int{one}, 1)
	}
	h.Set(pairs[19], 0, other)
	roots := []int{}
	for range 100_000 {
		roots = append(roots, alloc(t, h, api.TSel, []int{one}, 0))
	}
	for _, deep := range []int{10, 19} {
		if l, _ := collect(t, h, deep, roots...); count(l, api.TSel) < len(roots) {
			t.Errorf("P1201: deep %d: of %d that pick are left %d", deep, len(roots), count(l, api.TSel))
		}
	}
	if l, _ := collect(t, h, 20, roots...); len(l.things) != 2 || l.things[0].tag != api.TCon || l.roots[99_999] != 0 {
		t.Errorf("P1201: deep 20: %d are left", len(l.things))
	}
}
