package gc_test

import (
	"testing"

	"thunk/api"
	"thunk/heap"
)

// TestPicks: what only picks one of a pair that is there is not there, and the pair, if nothing else leads to it.
func TestPicks(t *testing.T) {
	h := build(t, 40,
		thing{0, api.TInt, nil, []int{1}},
		thing{2, api.TInt, nil, []int{2}},
		thing{4, api.TCon, []int{0, 2}, nil},
		thing{7, api.TSel, []int{4}, []int{0}},
		thing{10, api.TSel, []int{4}, []int{1}},
		thing{13, api.TFun, []int{10, 7, 10}, nil},
	)
	check(t, h, 0, []int{7, 10}, left{[]thing{
		{0, api.TSel, []int{6}, []int{0}},
		{3, api.TSel, []int{6}, []int{1}},
		{6, api.TCon, []int{9, 11}, nil},
		{9, api.TInt, nil, []int{1}},
		{11, api.TInt, nil, []int{2}},
	}, 13, 40, []int{0, 3}})
	for deep := 1; deep <= 20; deep++ {
		check(t, h, deep, []int{7, 10}, left{[]thing{
			{0, api.TInt, nil, []int{1}},
			{2, api.TInt, nil, []int{2}},
		}, 4, 40, []int{0, 2}})
		check(t, h, deep, []int{13}, left{[]thing{
			{0, api.TFun, []int{4, 6, 4}, nil},
			{4, api.TInt, nil, []int{2}},
			{6, api.TInt, nil, []int{1}},
		}, 8, 40, []int{0}})
	}
}

// TestPicksNone: where no pair is, what picks stays.
func TestPicksNone(t *testing.T) {
	for _, tag := range []int{api.TInt, api.TFun, api.TThunk, api.TAtom} {
		h := build(t, 20,
			thing{0, tag, []int{3, 3}, nil},
			thing{3, api.TSel, []int{6}, []int{1}},
			thing{6, api.TInd, []int{0}, nil},
		)
		for deep := range 21 {
			check(t, h, deep, []int{3}, left{[]thing{
				{0, api.TSel, []int{3}, []int{1}},
				{3, tag, []int{0, 0}, nil},
			}, 6, 20, []int{0}})
		}
	}
}

// TestPicksThroughLeads: what leads on, to what picks, to the pair, and from it, takes no depth.
func TestPicksThroughLeads(t *testing.T) {
	h := build(t, 40,
		thing{0, api.TInt, nil, []int{1}},
		thing{2, api.TInd, []int{0}, nil},
		thing{4, api.TInd, []int{2}, nil},
		thing{6, api.TCon, []int{4, 13}, nil},
		thing{9, api.TInd, []int{6}, nil},
		thing{11, api.TInd, []int{9}, nil},
		thing{13, api.TSel, []int{11}, []int{0}},
		thing{16, api.TInd, []int{13}, nil},
		thing{18, api.TInd, []int{16}, nil},
	)
	for deep := 1; deep <= 20; deep++ {
		check(t, h, deep, []int{18}, left{[]thing{{0, api.TInt, nil, []int{1}}}, 2, 40, []int{0}})
	}
	check(t, h, 0, []int{18}, left{[]thing{
		{0, api.TSel, []int{3}, []int{0}},
		{3, api.TCon, []int{6, 0}, nil},
		{6, api.TInt, nil, []int{1}},
	}, 8, 40, []int{0}})
}

// count tells how many objects of a tag there are.
func count(l left, tag int) (n int) {
	for _, x := range l.things {
		if x.tag == tag {
			n++
		}
	}
	return n
}

// TestPicksOfPicks: each picks of what the one ahead picks: of n of them all but as many as one may look deep stay.
func TestPicksOfPicks(t *testing.T) {
	for n := range 25 {
		h := heap.New(200)
		pair := alloc(t, h, api.TAtom, nil)
		for range n {
			pair = alloc(t, h, api.TCon, []int{pair, pair})
		}
		for i := range n {
			pair = alloc(t, h, api.TSel, []int{pair}, i%2)
		}
		for deep := range 21 {
			l, _ := collect(t, h, deep, pair)
			if got, want := count(l, api.TSel), max(0, n-deep); got != want {
				t.Errorf("P1201: of %d that pick of what the one ahead picks, deep %d: %d stay, not %d: %v", n, deep, got, want, l)
			}
		}
	}
}

// TestPicksInPairs: in each pair is what picks of the one ahead: of n of them one is looked behind as many as one may look deep.
func TestPicksInPairs(t *testing.T) {
	for n := range 70 {
		h := heap.New(500)
		at := alloc(t, h, api.TAtom, nil)
		for i := range n {
			at = alloc(t, h, api.TCon, []int{at, at})
			at = alloc(t, h, api.TSel, []int{at}, i%2)
		}
		for deep := range 21 {
			want := 0
			for i := n - deep; i > 0; i -= 1 + deep {
				want++
			}
			l, _ := collect(t, h, deep, at)
			if got := count(l, api.TSel); got != want || count(l, api.TCon) != want {
				t.Errorf("P1201: of %d that pick, each in the next one's pair, deep %d: %d stay, not %d: %v", n, deep, got, want, l)
			}
		}
	}
}

// TestPicksBoth: of what picks of what picks a part that picks, each is looked behind a step less deep.
func TestPicksBoth(t *testing.T) {
	h := build(t, 60,
		thing{0, api.TAtom, nil, nil},
		thing{2, api.TInt, nil, []int{1}},
		thing{4, api.TCon, []int{2, 0}, nil},
		thing{7, api.TSel, []int{4}, []int{0}},   // 2, deep 1
		thing{10, api.TCon, []int{0, 7}, nil},    // its second: 2, deep 1
		thing{13, api.TCon, []int{10, 0}, nil},   //
		thing{16, api.TSel, []int{13}, []int{0}}, // 10, deep 1
		thing{19, api.TSel, []int{16}, []int{1}}, // 7, 2, deep 2
		thing{22, api.TCon, []int{0, 19}, nil},
		thing{25, api.TSel, []int{22}, []int{1}}, // 19, deep 1, 2; 2, deep 3
	)
	for deep, want := range []int{api.TSel, api.TSel, api.TSel, api.TInt, api.TInt} {
		l, _ := collect(t, h, deep, 25)
		if got := l.things[0].tag; got != want {
			t.Errorf("P1201: deep %d: %v", deep, l)
		}
	}
	one, _ := collect(t, h, 1, 19)
	two, _ := collect(t, h, 2, 19)
	if one.things[0].tag != api.TSel || two.things[0].tag != api.TInt || two.used != 2 {
		t.Errorf("P1201: deep 1: %v, deep 2: %v", one, two)
	}
}

// TestPicksRound: what comes round by picking ends.
func TestPicksRound(t *testing.T) {
	self := build(t, 9, thing{0, api.TSel, []int{0}, []int{1}})
	both := build(t, 9, thing{0, api.TSel, []int{3}, []int{1}}, thing{3, api.TSel, []int{0}, []int{0}})
	leads := build(t, 9, thing{0, api.TSel, []int{3}, []int{0}}, thing{3, api.TInd, []int{5}, nil}, thing{5, api.TInd, []int{3}, nil})
	pair := build(t, 9, thing{0, api.TCon, []int{3, 0}, nil}, thing{3, api.TSel, []int{0}, []int{0}})
	for deep := range 21 {
		check(t, self, deep, []int{0}, left{things(self), 3, 9, []int{0}})
		check(t, both, deep, []int{0}, left{things(both), 6, 9, []int{0}})
		check(t, leads, deep, []int{0}, left{things(leads), 7, 9, []int{0}})
		check(t, pair, deep, []int{0}, left{things(pair), 6, 9, []int{0}})
	}
}

// TestPicksInTurn: two that pick each other of pairs: which one is come to hangs on how deep one looks.
func TestPicksInTurn(t *testing.T) {
	h := build(t, 12,
		thing{0, api.TSel, []int{3}, []int{0}},
		thing{3, api.TCon, []int{6, 3}, nil},
		thing{6, api.TSel, []int{9}, []int{1}},
		thing{9, api.TCon, []int{9, 0}, nil},
	)
	for deep := range 21 {
		l, _ := collect(t, h, deep, 0)
		if got := l.things[0].nums[0]; got != deep%2 || l.roots[0] != 0 {
			t.Errorf("P1201: deep %d: %v", deep, l)
		}
	}
	check(t, h, 1, []int{0, 6}, left{[]thing{
		{0, api.TSel, []int{6}, []int{1}},
		{3, api.TSel, []int{9}, []int{0}},
		{6, api.TCon, []int{6, 0}, nil},
		{9, api.TCon, []int{3, 9}, nil},
	}, 12, 12, []int{0, 3}})
}

func alloc(t *testing.T, h *heap.Heap, tag int, ptrs []int, nums ...int) int {
	t.Helper()
	at, is := h.Alloc(tag, ptrs, nums)
	if !is {
		t.Fatalf("Alloc(%d, %v, %v) with %d of %d words used is false", tag, ptrs, nums, h.Used(), h.Words())
	}
	return at
}
