package heap_test

import (
	"math"
	"slices"
	"testing"

	"thunk/api"
	"thunk/heap"
)

// thing is an object, as it is read.
type thing struct {
	tag        int
	ptrs, nums []int
}

func (a thing) is(b thing) bool {
	return a.tag == b.tag && slices.Equal(a.ptrs, b.ptrs) && slices.Equal(a.nums, b.nums)
}

func read(h *heap.Heap, at int) thing {
	return thing{h.Tag(at), h.Ptrs(at), h.Nums(at)}
}

// alloc lays an object that may be, and tells its address.
func alloc(t *testing.T, h *heap.Heap, tag int, ptrs, nums []int) int {
	t.Helper()
	used := h.Used()
	at, is := h.Alloc(tag, ptrs, nums)
	if !is || at != used {
		t.Fatalf("P1101: Alloc(%d, %v, %v) of %d of %d words is %d, %v", tag, ptrs, nums, used, h.Words(), at, is)
	}
	return at
}

// refuse holds that there is no such object, and that nothing was changed.
func refuse(t *testing.T, h *heap.Heap, tag int, ptrs, nums []int) {
	t.Helper()
	before := all(h)
	if at, is := h.Alloc(tag, ptrs, nums); is || at != 0 {
		t.Errorf("P1101, P4: Alloc(%d, %v, %v) is %d, %v", tag, ptrs, nums, at, is)
	}
	if !before.is(all(h)) {
		t.Errorf("P5: Alloc(%d, %v, %v), refused, changes the heap", tag, ptrs, nums)
	}
}

// show is all that a heap tells.
type show struct {
	used, words int
	objects     []int
	things      []thing
	follow      []int
}

func all(h *heap.Heap) show {
	s := show{used: h.Used(), words: h.Words(), objects: h.Objects()}
	for at := -1; at <= h.Used(); at++ {
		s.things = append(s.things, read(h, at))
		s.follow = append(s.follow, h.Follow(at))
	}
	return s
}

func (s show) is(o show) bool {
	return s.used == o.used && s.words == o.words && slices.Equal(s.objects, o.objects) && slices.EqualFunc(s.things, o.things, thing.is) && slices.Equal(s.follow, o.follow)
}

// checkNone holds that no object is at these addresses.
func checkNone(t *testing.T, h *heap.Heap, addresses ...int) {
	t.Helper()
	for _, at := range addresses {
		if got := read(h, at); !got.is(thing{}) {
			t.Errorf("P1101: at %d is no object, but %v", at, got)
		}
		if got := h.Follow(at); got != -1 {
			t.Errorf("P1102: Follow(%d) is %d", at, got)
		}
	}
}

// far are addresses where never is an object.
func far() []int {
	return []int{-1, -2, math.MinInt, math.MinInt + 1, math.MaxInt, math.MaxInt - 1, math.MaxInt32, math.MinInt32, 1 << 32, 1_000_000}
}

func same(n, x int) []int {
	return slices.Repeat([]int{x}, n)
}

func TestNew(t *testing.T) {
	for _, n := range []int{0, 1, 2, 3, 121, 999_999, 1_000_000} {
		h := heap.New(n)
		if h.Used() != 0 || h.Words() != n || len(h.Objects()) != 0 {
			t.Errorf("P1101: New(%d): %d used of %d, %v", n, h.Used(), h.Words(), h.Objects())
		}
		checkNone(t, h, append(far(), 0, 1, n-1, n)...)
	}
}

// TestNewRefused: what may not be handed in is no reason to fall; there are no words.
func TestNewRefused(t *testing.T) {
	for _, n := range []int{-1, -2, math.MinInt, 1_000_001, math.MaxInt32, math.MaxInt} {
		h := heap.New(n)
		if h.Used() != 0 || h.Words() != 0 || len(h.Objects()) != 0 {
			t.Errorf("P1, P9: New(%d): %d used of %d, %v", n, h.Used(), h.Words(), h.Objects())
		}
		refuse(t, h, api.TInt, nil, nil)
		checkNone(t, h, append(far(), 0, 1)...)
	}
}

// TestSizes: an object is a word, its pointers, its numbers: 2 words at least.
func TestSizes(t *testing.T) {
	h := heap.New(1_000_000)
	var objects []int
	var things []thing
	for ptrs := range 61 {
		for nums := range 61 {
			x := thing{api.TThunk, nil, nil}
			for i := range ptrs {
				x.ptrs = append(x.ptrs, objects[(ptrs*7+nums*5+i*3)%max(1, len(objects))])
			}
			for i := range nums {
				x.nums = append(x.nums, ptrs*100-nums*1000+i)
			}
			used := h.Used()
			objects, things = append(objects, alloc(t, h, x.tag, x.ptrs, x.nums)), append(things, x)
			if got, want := h.Used()-used, max(2, 1+ptrs+nums); got != want {
				t.Fatalf("P1101: %d pointers and %d numbers: %d words, not %d", ptrs, nums, got, want)
			}
		}
	}
	if got := h.Objects(); !slices.Equal(got, objects) {
		t.Errorf("P1101: Objects is %v, not %v", got, objects)
	}
	for i, at := range objects {
		if got := read(h, at); !got.is(things[i]) {
			t.Errorf("P1101: at %d is %v, not %v", at, got, things[i])
		}
	}
	for at := range h.Used() + 1 {
		if _, is := slices.BinarySearch(objects, at); !is {
			checkNone(t, h, at)
		}
	}
}

// TestAsWritten: one row by hand.
func TestAsWritten(t *testing.T) {
	h := heap.New(20)
	for _, x := range []struct {
		thing
		at, used int
	}{
		{thing{api.TInt, nil, []int{5}}, 0, 2},
		{thing{api.TAtom, nil, nil}, 2, 4},
		{thing{api.TCon, []int{0, 2}, nil}, 4, 7},
		{thing{api.TSel, []int{4}, []int{1}}, 7, 10},
		{thing{api.TInd, []int{7}, nil}, 10, 12},
		{thing{api.TFun, []int{12, 0, 12}, []int{-9, math.MinInt, math.MaxInt, 0}}, 12, 20},
	} {
		if at := alloc(t, h, x.tag, x.ptrs, x.nums); at != x.at || h.Used() != x.used {
			t.Errorf("P1101: %v lies at %d, then %d are used", x, at, h.Used())
		}
		if got := read(h, x.at); !got.is(x.thing) {
			t.Errorf("P1101: at %d is %v, not %v", x.at, got, x.thing)
		}
	}
	if got := h.Objects(); !slices.Equal(got, []int{0, 2, 4, 7, 10, 12}) {
		t.Errorf("P1101: Objects is %v", got)
	}
	checkNone(t, h, append(far(), 1, 3, 5, 6, 8, 9, 11, 13, 19, 20)...)
	refuse(t, h, api.TAtom, nil, nil)
	if h.Used() != 20 || h.Words() != 20 {
		t.Errorf("P1101: %d used of %d", h.Used(), h.Words())
	}
}

// TestTags: which tags there are, and of what form an object of each is.
func TestTags(t *testing.T) {
	for _, tag := range []int{math.MinInt, -1, 0, 1, 2, 3, 4, 5, 6, 7, 8, 9, 255, 256, 257, 258, 260, 1 << 32, 1<<32 + 1, math.MaxInt} {
		for ptrs := range 5 {
			for nums := range 5 {
				may := tag >= 1 && tag <= 7
				switch tag {
				case api.TCon:
					may = ptrs == 2 && nums == 0
				case api.TInd:
					may = ptrs == 1 && nums == 0
				case api.TSel:
					may = ptrs == 1 && nums == 1
				}
				h := heap.New(12)
				alloc(t, h, api.TAtom, nil, nil)
				if !may {
					refuse(t, h, tag, same(ptrs, 0), same(nums, 1))
					continue
				}
				want := thing{tag, same(ptrs, 0), same(nums, 1)}
				if got := read(h, alloc(t, h, tag, want.ptrs, want.nums)); !got.is(want) {
					t.Errorf("P1101: %v is read as %v", want, got)
				}
			}
		}
	}
}

func TestPicks(t *testing.T) {
	for _, n := range []int{math.MinInt, -2, -1, 0, 1, 2, 3, 256, 257, 1 << 32, 1<<32 + 1, math.MaxInt} {
		h := heap.New(10)
		alloc(t, h, api.TAtom, nil, nil)
		if n == 0 || n == 1 {
			if got := h.Nums(alloc(t, h, api.TSel, []int{0}, []int{n})); !slices.Equal(got, []int{n}) {
				t.Errorf("P1101: a TSel of %d has %v", n, got)
			}
		} else {
			refuse(t, h, api.TSel, []int{0}, []int{n})
		}
	}
}

// TestMost: 60 pointers and 60 numbers, no more.
func TestMost(t *testing.T) {
	for _, tag := range []int{api.TInt, api.TFun, api.TThunk, api.TAtom} {
		h := heap.New(10_000)
		for _, n := range []int{61, 62, 63, 64, 120, 255, 256, 257, 316, 5000} {
			refuse(t, h, tag, same(n, 0), nil)
			refuse(t, h, tag, nil, same(n, 0))
			refuse(t, h, tag, same(n, 0), same(n, 0))
			refuse(t, h, tag, same(n, 0), same(60, 0))
			refuse(t, h, tag, same(60, 0), same(n, 0))
		}
		alloc(t, h, tag, same(60, 0), same(60, 7))
		if h.Used() != 121 || !read(h, 0).is(thing{tag, same(60, 0), same(60, 7)}) {
			t.Errorf("P1101: %v in %d words", read(h, 0), h.Used())
		}
	}
}

// TestPointers: a pointer is an object's address, or the new one's own.
func TestPointers(t *testing.T) {
	h := heap.New(100)
	refuse(t, h, api.TInd, []int{1}, nil)
	refuse(t, h, api.TInd, []int{2}, nil)
	alloc(t, h, api.TInd, []int{0}, nil)
	alloc(t, h, api.TFun, []int{2, 0, 2}, []int{0, 2})
	alloc(t, h, api.TAtom, nil, nil)
	alloc(t, h, api.TCon, []int{10, 10}, nil)
	alloc(t, h, api.TSel, []int{13}, []int{0})
	used, objects := h.Used(), []int{0, 2, 8, 10, 13}
	if used != 16 || !slices.Equal(h.Objects(), objects) {
		t.Fatalf("P1101: %d used, %v", used, h.Objects())
	}
	for _, bad := range append(far(), 1, 3, 4, 5, 6, 7, 9, 11, 12, 14, 15, 17, 18, 99, 100) {
		for _, good := range append(objects, used) {
			refuse(t, h, api.TCon, []int{good, bad}, nil)
			refuse(t, h, api.TCon, []int{bad, good}, nil)
		}
		refuse(t, h, api.TInd, []int{bad}, nil)
		refuse(t, h, api.TSel, []int{bad}, []int{1})
		for _, tag := range []int{api.TInt, api.TFun, api.TThunk, api.TAtom} {
			for i := range 6 {
				l := same(6, 2)
				l[i] = bad
				refuse(t, h, tag, l, []int{bad})
			}
		}
	}
	last := alloc(t, h, api.TThunk, append(objects, used), far())
	if got := read(h, last); !got.is(thing{api.TThunk, append(objects, used), far()}) {
		t.Errorf("P1101: at %d is %v", last, got)
	}
}

// TestLeft: an object lies in what is left, or in nothing.
func TestLeft(t *testing.T) {
	for words := range 130 {
		for parts := range 121 {
			h, nums := heap.New(words), same(parts-min(parts, 60), 3)
			ptrs := same(parts-len(nums), 0)
			if words < max(2, 1+parts) {
				refuse(t, h, api.TFun, ptrs, nums)
			} else {
				alloc(t, h, api.TFun, ptrs, nums)
			}
		}
	}
}

func TestFull(t *testing.T) {
	for _, words := range []int{0, 1, 2, 3, 1000, 1001, 999_999, 1_000_000} {
		h := heap.New(words)
		for range words / 2 {
			alloc(t, h, api.TInd, []int{max(0, h.Used()-2)}, nil)
		}
		if at, is := h.Alloc(api.TAtom, nil, nil); at != 0 || is {
			t.Errorf("P1101, P4: of %d words, %d used: %d, %v", words, h.Used(), at, is)
		}
		if h.Used() != words/2*2 || h.Words() != words || len(h.Objects()) != words/2 {
			t.Errorf("P1101: of %d words %d are used, by %d objects", words, h.Used(), len(h.Objects()))
		}
	}
	h := heap.New(10)
	alloc(t, h, api.TFun, nil, same(5, 1))
	refuse(t, h, api.TFun, nil, same(4, 1))
	refuse(t, h, api.TFun, nil, same(60, 1))
	alloc(t, h, api.TFun, nil, same(3, 2))
	refuse(t, h, api.TAtom, nil, nil)
	if got := h.Objects(); !slices.Equal(got, []int{0, 6}) {
		t.Errorf("P1101: Objects is %v", got)
	}
}
