package heap_test

import (
	"reflect"
	"slices"
	"testing"

	"thunk/api"
	"thunk/heap"
)

// span is the memory of a list, its spare room too.
type span struct{ from, to uintptr }

// overlap tells whether two of these lists have memory in common.
func overlap(lists ...[]int) bool {
	var all []span
	for _, l := range lists {
		if v := reflect.ValueOf(l); v.Cap() > 0 {
			all = append(all, span{v.Pointer(), v.Pointer() + uintptr(v.Cap())*v.Type().Elem().Size()})
		}
	}
	for i, a := range all {
		for _, b := range all[:i] {
			if a.from < b.to && b.from < a.to {
				return true
			}
		}
	}
	return false
}

// spoil writes over a list, and over its spare room.
func spoil(l []int) {
	l = l[:cap(l)]
	for i := range l {
		l[i] = -77
	}
}

// TestHandedIn: what is handed in is not changed, and not kept; spare room does not count.
func TestHandedIn(t *testing.T) {
	h := heap.New(100)
	alloc(t, h, api.TAtom, nil, nil)
	ptrs, nums := append(make([]int, 0, 8), 0, 2, 0, 99, 98), append(make([]int, 0, 8), 5, 6, 97, 96)
	ptrs, nums = ptrs[:3], nums[:2]
	wantPtrs, wantNums := slices.Clone(ptrs[:8]), slices.Clone(nums[:8])
	at := alloc(t, h, api.TFun, ptrs, nums)
	refuse(t, h, api.TFun, ptrs[:4], nums)
	refuse(t, h, api.TCon, ptrs, nums)
	if !slices.Equal(ptrs[:8], wantPtrs) || !slices.Equal(nums[:8], wantNums) {
		t.Errorf("P2: Alloc changes %v, %v", ptrs[:8], nums[:8])
	}
	spoil(ptrs)
	spoil(nums)
	if want := (thing{api.TFun, []int{0, 2, 0}, []int{5, 6}}); !read(h, at).is(want) {
		t.Errorf("P2: Alloc keeps what was handed in: %v, not %v", read(h, at), want)
	}
	h.Set(at, 0, at)
	h.Over(at, 0)
	if !slices.Equal(ptrs[:8], same(8, -77)) || !slices.Equal(nums[:8], same(8, -77)) {
		t.Errorf("P2: what was handed in is written over: %v, %v", ptrs[:8], nums[:8])
	}
}

// TestOneList: the one list may be handed in as both.
func TestOneList(t *testing.T) {
	h := heap.New(100)
	alloc(t, h, api.TAtom, nil, nil)
	l := []int{0, 2, 0}
	at := alloc(t, h, api.TThunk, l, l)
	h.Set(at, 0, at)
	if want := (thing{api.TThunk, []int{2, 2, 0}, []int{0, 2, 0}}); !read(h, at).is(want) || !slices.Equal(l, []int{0, 2, 0}) {
		t.Errorf("P2: %v, not %v", read(h, at), want)
	}
}

// TestAnswered: an answer is new memory: who writes into it does not change the heap, nor what else is answered.
func TestAnswered(t *testing.T) {
	h := some(t)
	before := all(h)
	for range 2 {
		for _, at := range objects() {
			ptrs, nums, more := h.Ptrs(at), h.Nums(at), h.Objects()
			lists := [][]int{ptrs, nums, more, h.Ptrs(at), h.Nums(at), h.Objects()}
			if overlap(lists...) {
				t.Errorf("P2: at %d lists share memory", at)
			}
			for _, l := range lists {
				spoil(l)
			}
			if got := all(h); !got.is(before) {
				t.Errorf("P2: who writes into an answer changes the heap: %v, not %v", got, before)
			}
		}
	}
}

// TestAnsweredStays: what was answered does not change with the heap.
func TestAnsweredStays(t *testing.T) {
	h := some(t)
	ptrs, nums, list := h.Ptrs(12), h.Nums(12), h.Objects()
	h.Set(12, 1, 4)
	h.Over(12, 0)
	h.Alloc(api.TAtom, nil, nil)
	if !slices.Equal(ptrs, []int{0, 12, 10}) || !slices.Equal(nums, []int{7, 4}) || !slices.Equal(list, objects()) {
		t.Errorf("P2: what was answered becomes %v, %v, %v", ptrs, nums, list)
	}
}

// TestNone: no list and an empty one are the same.
func TestNone(t *testing.T) {
	for _, tag := range []int{api.TInt, api.TFun, api.TThunk, api.TAtom} {
		h := heap.New(8)
		for _, ptrs := range [][]int{nil, {}} {
			for _, nums := range [][]int{nil, {}} {
				at := alloc(t, h, tag, ptrs, nums)
				if !read(h, at).is(thing{tag, nil, nil}) || h.Used() != at+2 {
					t.Errorf("P2: at %d is %v", at, read(h, at))
				}
			}
		}
		refuse(t, h, tag, nil, []int{})
	}
	for _, none := range [][]int{nil, {}} {
		for _, tag := range []int{api.TCon, api.TInd, api.TSel} {
			refuse(t, heap.New(8), tag, none, none)
		}
	}
}

// TestSideBySide: heaps do not touch one another, whether calls take turns or come at the same time.
func TestSideBySide(t *testing.T) {
	one, two := some(t), some(t)
	before := all(two)
	one.Set(4, 0, 12)
	one.Over(7, 0)
	alone := heap.New(4)
	alloc(t, alone, api.TInd, []int{0}, nil)
	unchanged(t, two, before)
	two.Over(12, 4)
	if one.Tag(12) != api.TFun || two.Tag(7) != api.TSel || alone.Follow(0) != -1 || len(alone.Objects()) != 1 {
		t.Error("P7: heaps touch one another")
	}
	answers := make(chan show)
	for range 8 {
		go func() {
			m := newMaker(7)
			defer func() { answers <- all(m.h) }()
			for range 300 {
				m.call(t)
			}
		}()
	}
	want := <-answers
	for range 7 {
		if got := <-answers; !got.is(want) {
			t.Errorf("P3, P7: %v, not %v", got, want)
		}
	}
}

// TestAgain: the same calls in the same order answer the same.
func TestAgain(t *testing.T) {
	for seed := range int64(50) {
		one, two := newMaker(seed), newMaker(seed)
		for range 60 {
			one.call(t)
			two.call(t)
		}
		if !all(one.h).is(all(two.h)) || one.done != two.done {
			t.Fatalf("P3: %v, then %v", all(one.h), all(two.h))
		}
	}
}

// TestLooked: to look changes nothing.
func TestLooked(t *testing.T) {
	h := some(t)
	before := all(h)
	for range 3 {
		unchanged(t, h, before)
	}
}
