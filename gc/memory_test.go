package gc_test

import (
	"slices"
	"sync"
	"testing"

	"thunk/api"
	"thunk/gc"
)

// TestSpareRoom: what lies behind the roots that are handed in does not count, and stays.
func TestSpareRoom(t *testing.T) {
	h := some(t)
	for n := range 4 {
		roots := []int{26, 15, 26, -1, 77}
		want, _ := collect(t, h, 2, slices.Clone(roots[:n])...)
		to, at, is := gc.Collect(h, roots[:n], 2)
		if got := (left{things(to), to.Used(), to.Words(), at}); !is || !got.is(want) {
			t.Errorf("P2: %v, not %v", got, want)
		}
		if !slices.Equal(roots, []int{26, 15, 26, -1, 77}) {
			t.Errorf("P2: what is handed in becomes %v", roots)
		}
	}
}

// TestAnswered: the roots that are answered share no memory with those handed in, nor with the new heap.
func TestAnswered(t *testing.T) {
	h := some(t)
	roots := append(make([]int, 0, 10), 26, 15, 26)
	to, at, _ := gc.Collect(h, roots, 2)
	before := things(to)
	for i := range at[:cap(at)] {
		at[:cap(at)][i] = -77
	}
	if !slices.Equal(roots, []int{26, 15, 26}) || !slices.Equal(roots[:10], append(slices.Clone(roots), make([]int, 7)...)) {
		t.Errorf("P2: what is handed in becomes %v", roots[:10])
	}
	if !slices.EqualFunc(things(to), before, thing.is) {
		t.Errorf("P2: who writes into the roots changes the heap: %v", things(to))
	}
	again, _ := collect(t, h, 2, roots...)
	for i := range roots[:10] {
		roots[:10][i] = -88
	}
	if !slices.Equal(again.roots, []int{0, 3, 0}) || !slices.EqualFunc(things(to), again.things, thing.is) {
		t.Errorf("P2: what was handed in is kept: %v, not %v", things(to), again)
	}
	for _, x := range at[:cap(at)] {
		if x != -77 {
			t.Errorf("P2: what was answered becomes %v", at)
		}
	}
}

// TestAgain: the same heap may be collected as often as one likes, by any roots, with the same answer.
func TestAgain(t *testing.T) {
	for seed := range int64(100) {
		m := newMaker(seed)
		h := m.heap()
		roots := m.roots(h)
		want, one := collect(t, h, 4, roots...)
		collect(t, h, 7, m.roots(h)...)
		got, two := collect(t, h, 4, roots...)
		if !got.is(want) || one == two {
			t.Fatalf("P3: %v, then %v", want, got)
		}
		two.Alloc(api.TAtom, nil, nil)
		for _, at := range two.Objects() {
			two.Set(at, 0, 0)
			two.Over(at, 0)
		}
		if !slices.EqualFunc(things(one), want.things, thing.is) {
			t.Fatalf("P7: the one answer becomes %v, when the other is written", things(one))
		}
	}
}

// TestSideBySide: one heap is collected at several places at the same time, as it is only read.
func TestSideBySide(t *testing.T) {
	h := newMaker(3).heap()
	roots := h.Objects()
	want := newSlow(h, 9).collect(h.Words(), roots)
	var all sync.WaitGroup
	for range 8 {
		all.Go(func() {
			for range 50 {
				to, at, is := gc.Collect(h, roots, 9)
				if got := (left{things(to), to.Used(), to.Words(), at}); !is || !got.is(want) {
					t.Errorf("P7: %v, not %v", got, want)
				}
			}
		})
	}
	all.Wait()
}
