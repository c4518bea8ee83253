package gc_test

import (
	"math"
	"slices"
	"testing"

	"thunk/api"
	"thunk/gc"
	"thunk/heap"
)

// thing is an object, as it is read.
type thing struct {
	at, tag    int
	ptrs, nums []int
}

func (a thing) is(b thing) bool {
	return a.at == b.at && a.tag == b.tag && slices.Equal(a.ptrs, b.ptrs) && slices.Equal(a.nums, b.nums)
}

// things are all objects of a heap.
func things(h *heap.Heap) (l []thing) {
	for _, at := range h.Objects() {
		l = append(l, thing{at, h.Tag(at), h.Ptrs(at), h.Nums(at)})
	}
	return l
}

// build is a heap with these objects, that lie where they say.
func build(t *testing.T, words int, l ...thing) *heap.Heap {
	t.Helper()
	h := heap.New(words)
	for _, x := range l {
		self := slices.Repeat([]int{h.Used()}, len(x.ptrs))
		if at, is := h.Alloc(x.tag, self, x.nums); !is || at != x.at {
			t.Fatalf("%v lies at %d, %v", x, at, is)
		}
	}
	for _, x := range l {
		for i, to := range x.ptrs {
			if !h.Set(x.at, i, to) {
				t.Fatalf("Set(%d, %d, %d) is false", x.at, i, to)
			}
		}
	}
	return h
}

// left is what a collection leaves.
type left struct {
	things      []thing
	used, words int
	roots       []int
}

func (a left) is(b left) bool {
	return slices.EqualFunc(a.things, b.things, thing.is) && a.used == b.used && a.words == b.words && slices.Equal(a.roots, b.roots)
}

// collect is what is left, and the new heap; the old one stays.
func collect(t *testing.T, h *heap.Heap, deep int, roots ...int) (left, *heap.Heap) {
	t.Helper()
	before, used, words, handed := things(h), h.Used(), h.Words(), slices.Clone(roots)
	to, at, is := gc.Collect(h, roots, deep)
	if !is || to == nil || to == h {
		t.Fatalf("P1201: Collect of roots %v, deep %d, is %v, %v, %v", roots, deep, to, at, is)
	}
	if !slices.EqualFunc(things(h), before, thing.is) || h.Used() != used || h.Words() != words {
		t.Errorf("P1201: the heap does not stay: %v, not %v", things(h), before)
	}
	if !slices.Equal(roots, handed) {
		t.Errorf("P2: the roots that are handed in become %v, not %v", roots, handed)
	}
	return left{things(to), to.Used(), to.Words(), at}, to
}

// check holds what is left against what is wanted.
func check(t *testing.T, h *heap.Heap, deep int, roots []int, want left) {
	t.Helper()
	if got, _ := collect(t, h, deep, roots...); !got.is(want) {
		t.Errorf("P1201: of roots %v, deep %d: %v, not %v", roots, deep, got, want)
	}
}

// refuse holds that there is no answer.
func refuse(t *testing.T, h *heap.Heap, deep int, roots ...int) {
	t.Helper()
	before := things(h)
	if to, at, is := gc.Collect(h, roots, deep); is || to != nil || len(at) != 0 {
		t.Errorf("P1201, P4: Collect of roots %v, deep %d, is %v, %v, %v", roots, deep, to, at, is)
	}
	if !slices.EqualFunc(things(h), before, thing.is) {
		t.Errorf("P5: Collect, refused, changes the heap: %v, not %v", things(h), before)
	}
}

// some is a heap of 29 words.
func some(t *testing.T) *heap.Heap {
	t.Helper()
	return build(t, 50,
		thing{0, api.TInt, nil, []int{1}},
		thing{2, api.TInt, nil, []int{5}},
		thing{4, api.TCon, []int{2, 7}, nil},
		thing{7, api.TAtom, nil, nil},
		thing{9, api.TThunk, []int{4, 2, 4}, []int{8, -9}},
		thing{15, api.TFun, []int{9, 15}, []int{3}},
		thing{19, api.TCon, []int{22, 0}, nil},
		thing{22, api.TInt, nil, []int{math.MinInt, 0, math.MaxInt}},
		thing{26, api.TThunk, []int{22, 2}, nil},
	)
}

// TestNoRoots: example 1.
func TestNoRoots(t *testing.T) {
	for _, words := range []int{0, 1, 2, 999_999, 1_000_000} {
		for deep := range 21 {
			check(t, heap.New(words), deep, nil, left{words: words})
		}
	}
	check(t, some(t), 5, nil, left{words: 50})
	check(t, some(t), 5, []int{}, left{words: 50})
}

// TestAsWritten: what is not reached is not there; the roots come first, in order, then what they lead to.
func TestAsWritten(t *testing.T) {
	for deep := range 21 {
		check(t, some(t), deep, []int{26, 15, 26}, left{[]thing{
			{0, api.TThunk, []int{7, 11}, nil},
			{3, api.TFun, []int{13, 3}, []int{3}},
			{7, api.TInt, nil, []int{math.MinInt, 0, math.MaxInt}},
			{11, api.TInt, nil, []int{5}},
			{13, api.TThunk, []int{19, 11, 19}, []int{8, -9}},
			{19, api.TCon, []int{11, 22}, nil},
			{22, api.TAtom, nil, nil},
		}, 24, 50, []int{0, 3, 0}})
		check(t, some(t), deep, []int{7}, left{[]thing{{0, api.TAtom, nil, nil}}, 2, 50, []int{0}})
		check(t, some(t), deep, []int{2, 19, 0, 2, 0}, left{[]thing{
			{0, api.TInt, nil, []int{5}},
			{2, api.TCon, []int{7, 5}, nil},
			{5, api.TInt, nil, []int{1}},
			{7, api.TInt, nil, []int{math.MinInt, 0, math.MaxInt}},
		}, 11, 50, []int{0, 2, 5, 0, 5}})
	}
}

// TestRefused: a root is no object's address, or deep is none that may be.
func TestRefused(t *testing.T) {
	h := some(t)
	objects := h.Objects()
	wrong := []int{-1, -2, 50, 51, 1_000_000, math.MinInt, math.MaxInt, math.MaxInt32, math.MinInt32, 1 << 32}
	for at := range 50 {
		if !slices.Contains(objects, at) {
			wrong = append(wrong, at)
		}
	}
	for _, at := range wrong {
		for _, deep := range []int{0, 1, 20} {
			refuse(t, h, deep, at)
			refuse(t, h, deep, at, 0, 2)
			refuse(t, h, deep, 0, at, 2)
			refuse(t, h, deep, 0, 2, at)
			refuse(t, heap.New(at), deep, at)
		}
	}
	for _, deep := range []int{-1, 21, -20, 22, math.MinInt, math.MaxInt, 1 << 32, -1 << 32} {
		refuse(t, h, deep)
		refuse(t, h, deep, 0)
		refuse(t, h, deep, 1)
	}
	refuse(t, heap.New(0), 0, 0)
	refuse(t, heap.New(-1), 0, 0)
}

// TestLeadOn: nothing only leads on, roots neither.
func TestLeadOn(t *testing.T) {
	h := build(t, 40,
		thing{0, api.TInd, []int{4}, nil},
		thing{2, api.TAtom, nil, nil},
		thing{4, api.TInd, []int{11}, nil},
		thing{6, api.TFun, []int{0, 4, 11, 2}, nil},
		thing{11, api.TCon, []int{0, 14}, nil},
		thing{14, api.TInd, []int{2}, nil},
	)
	for deep := range 21 {
		check(t, h, deep, []int{14, 4, 0}, left{[]thing{
			{0, api.TAtom, nil, nil},
			{2, api.TCon, []int{2, 0}, nil},
		}, 5, 40, []int{0, 2, 2}})
		check(t, h, deep, []int{6}, left{[]thing{
			{0, api.TFun, []int{5, 5, 5, 8}, nil},
			{5, api.TCon, []int{5, 8}, nil},
			{8, api.TAtom, nil, nil},
		}, 10, 40, []int{0}})
	}
}

// TestComesRound: what leads on and comes round stays, in no more words than it needs; so does what leads to it.
func TestComesRound(t *testing.T) {
	h := build(t, 40,
		thing{0, api.TThunk, []int{6, 6, 6}, []int{1, 2}},
		thing{6, api.TInd, []int{0}, nil},
		thing{8, api.TInd, []int{6}, nil},
		thing{10, api.TInd, []int{10}, nil},
		thing{12, api.TCon, []int{8, 10}, nil},
	)
	if !h.Over(0, 6) {
		t.Fatal("Over(0, 6) is false")
	}
	for deep := range 21 {
		check(t, h, deep, []int{0}, left{[]thing{
			{0, api.TInd, []int{2}, nil},
			{2, api.TInd, []int{0}, nil},
		}, 4, 40, []int{0}})
		check(t, h, deep, []int{8, 10, 0}, left{[]thing{
			{0, api.TInd, []int{6}, nil},
			{2, api.TInd, []int{2}, nil},
			{4, api.TInd, []int{6}, nil},
			{6, api.TInd, []int{4}, nil},
		}, 8, 40, []int{0, 2, 4}})
		check(t, h, deep, []int{12, 12}, left{[]thing{
			{0, api.TCon, []int{3, 5}, nil},
			{3, api.TInd, []int{7}, nil},
			{5, api.TInd, []int{5}, nil},
			{7, api.TInd, []int{9}, nil},
			{9, api.TInd, []int{7}, nil},
		}, 11, 40, []int{0, 0}})
	}
}

// TestNoSpare: there is room for all, where there is none left.
func TestNoSpare(t *testing.T) {
	most, addresses := make([]int, 60), make([]int, 60)
	for i := range most {
		most[i] = i - 30
	}
	h := heap.New(363)
	for range 3 {
		at, is := h.Alloc(api.TFun, addresses, most)
		if !is {
			t.Fatalf("there is no room at %d", h.Used())
		}
		addresses = slices.Repeat([]int{at}, 60)
	}
	if h.Used() != h.Words() {
		t.Fatalf("%d words of %d are used", h.Used(), h.Words())
	}
	for deep := range 21 {
		to := func(at int) []int { return slices.Repeat([]int{at}, 60) }
		check(t, h, deep, []int{242}, left{[]thing{
			{0, api.TFun, to(121), most},
			{121, api.TFun, to(242), most},
			{242, api.TFun, to(242), most},
		}, 363, 363, []int{0}})
	}
}

// TestUsed: the new heap is one like others, and no part of the old one.
func TestUsed(t *testing.T) {
	h := some(t)
	before := things(h)
	_, to := collect(t, h, 3, 15)
	room := to.Words() - to.Used()
	if _, is := to.Alloc(api.TInt, nil, make([]int, room)); is {
		t.Error("P1201: the new heap has more words")
	}
	at, is := to.Alloc(api.TInt, nil, make([]int, room-1))
	if !is || to.Used() != to.Words() {
		t.Errorf("P1201: the new heap has less words: %d", to.Words())
	}
	if !to.Set(0, 0, at) || !to.Over(4, at) || to.Follow(4) != at {
		t.Errorf("P1201: the new heap is not to be written: %v", things(to))
	}
	if !slices.EqualFunc(things(h), before, thing.is) {
		t.Errorf("P7: the old heap becomes %v", things(h))
	}
	after := things(to)
	if !h.Over(15, 26) || !h.Set(9, 0, 0) || !slices.EqualFunc(things(to), after, thing.is) {
		t.Errorf("P7: the new heap becomes %v", things(to))
	}
}
