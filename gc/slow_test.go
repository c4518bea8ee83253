package gc_test

import (
	"math/rand"
	"testing"

	"thunk/api"
	"thunk/gc"
	"thunk/heap"
)

// slow collects by tables: of all objects, for each depth, what they are short of what leads on, and picks.
type slow struct {
	things map[int]thing
	tables []map[int]int
	order  []int
	where  map[int]int
	used   int
}

func newSlow(h *heap.Heap, deep int) *slow {
	s := &slow{things: map[int]thing{}, where: map[int]int{}}
	for _, x := range things(h) {
		s.things[x.at] = x
	}
	for range deep + 1 {
		table := map[int]int{}
		for at := range s.things {
			table[at] = s.shorter(at)
		}
		s.tables = append(s.tables, table)
	}
	return s
}

// follow goes as many steps as there are objects: who is not there then comes round.
func (s *slow) follow(at int) int {
	to := at
	for range s.things {
		if s.things[to].tag != api.TInd {
			return to
		}
		to = s.things[to].ptrs[0]
	}
	return at
}

// shorter tells of the last table.
func (s *slow) shorter(at int) int {
	a := s.follow(at)
	if s.things[a].tag != api.TSel || len(s.tables) == 0 {
		return a
	}
	last, x := s.tables[len(s.tables)-1], s.things[a]
	pair := s.things[last[x.ptrs[0]]]
	if pair.tag != api.TCon {
		return a
	}
	return last[pair.ptrs[x.nums[0]]]
}

func (s *slow) copied(at int) int {
	a := s.tables[len(s.tables)-1][at]
	if _, is := s.where[a]; !is {
		s.where[a] = s.used
		s.used += max(2, 1+len(s.things[a].ptrs)+len(s.things[a].nums))
		s.order = append(s.order, a)
	}
	return s.where[a]
}

func (s *slow) collect(words int, roots []int) (l left) {
	for _, at := range roots {
		l.roots = append(l.roots, s.copied(at))
	}
	for i := 0; i < len(s.order); i++ {
		x := thing{s.where[s.order[i]], s.things[s.order[i]].tag, nil, s.things[s.order[i]].nums}
		for _, to := range s.things[s.order[i]].ptrs {
			x.ptrs = append(x.ptrs, s.copied(to))
		}
		l.things = append(l.things, x)
	}
	l.used, l.words = s.used, words
	return l
}

// maker makes heaps, and roots.
type maker struct{ *rand.Rand }

func newMaker(seed int64) maker {
	return maker{rand.New(rand.NewSource(seed))}
}

// heap has mostly pairs, what picks of them, and what leads on; what leads to what, is by chance.
func (m maker) heap() *heap.Heap {
	h := heap.New(m.Intn(200))
	for range 4 + m.Intn(60) {
		m.alloc(h)
	}
	l := h.Objects()
	if len(l) == 0 {
		return h
	}
	one := func() int { return l[m.Intn(len(l))] }
	for range m.Intn(2 * len(l)) {
		h.Set(one(), m.Intn(3), one())
	}
	for range m.Intn(1 + len(l)/3) {
		h.Over(one(), one())
	}
	return h
}

func (m maker) alloc(h *heap.Heap) {
	tags := []int{api.TInt, api.TCon, api.TCon, api.TCon, api.TSel, api.TSel, api.TSel, api.TSel, api.TInd, api.TFun, api.TThunk, api.TAtom}
	l := append(h.Objects(), h.Used())
	tag, ptrs, nums := tags[m.Intn(len(tags))], []int(nil), []int(nil)
	many := m.Intn(4)
	switch tag {
	case api.TCon:
		many = 2
	case api.TInd:
		many = 1
	case api.TSel:
		many, nums = 1, []int{m.Intn(2)}
	default:
		for range m.Intn(4) {
			nums = append(nums, m.Intn(9)-4)
		}
	}
	for range many {
		ptrs = append(ptrs, l[m.Intn(len(l))])
	}
	h.Alloc(tag, ptrs, nums)
}

func (m maker) roots(h *heap.Heap) (roots []int) {
	l := h.Objects()
	if len(l) == 0 {
		return nil
	}
	for range m.Intn(6) {
		roots = append(roots, l[m.Intn(len(l))])
	}
	return roots
}

// checkMatch holds P1202: what the roots lead to is as it was, of one and the same object one and the same copy, and nothing else is left.
func checkMatch(t *testing.T, h, to *heap.Heap, deep int, roots, at []int) {
	t.Helper()
	s := newSlow(h, deep)
	copies, olds := map[int]int{}, map[int]int{}
	var match func(from, to []int)
	match = func(from, now []int) {
		if len(from) != len(now) {
			t.Fatalf("P1202: %v, then %v", from, now)
		}
		for i := range from {
			a, b := s.tables[deep][from[i]], now[i]
			if was, is := copies[a]; is && was != b {
				t.Fatalf("P1202: %d is copied to %d, and to %d", a, was, b)
			}
			if was, is := olds[b]; is {
				if was != a {
					t.Fatalf("P1202: to %d are copied %d and %d", b, was, a)
				}
				continue
			}
			copies[a], olds[b] = b, a
			was, is := thing{0, h.Tag(a), nil, h.Nums(a)}, thing{0, to.Tag(b), nil, to.Nums(b)}
			if !was.is(is) || is.tag == 0 {
				t.Fatalf("P1202: %d was %v, is %v", a, was, is)
			}
			match(h.Ptrs(a), to.Ptrs(b))
		}
	}
	match(roots, at)
	if len(olds) != len(to.Objects()) {
		t.Fatalf("P1202: %d objects can be reached, but %d are left", len(olds), len(to.Objects()))
	}
	for b := range olds {
		if to.Tag(b) == api.TInd && to.Follow(b) != -1 {
			t.Fatalf("P1202: at %d is what only leads on", b)
		}
	}
}

// checkMany holds collections of one heap against the slow way. What is left is left by one more, that looks behind nothing.
func checkMany(t *testing.T, seed int64) (shorter int) {
	t.Helper()
	m := newMaker(seed)
	h := m.heap()
	roots := m.roots(h)
	most := 0
	for _, deep := range []int{0, 1, 2, 3, m.Intn(21), 20} {
		got, to := collect(t, h, deep, roots...)
		if want := newSlow(h, deep).collect(h.Words(), roots); !got.is(want) {
			t.Fatalf("P1201: of %v, roots %v, deep %d: %v, not %v", things(h), roots, deep, got, want)
		}
		checkMatch(t, h, to, deep, roots, got.roots)
		if again, _ := collect(t, to, 0, got.roots...); !again.is(got) {
			t.Fatalf("P1201: %v is left, then %v", got, again)
		}
		if deep == 0 {
			most = len(got.things)
		} else if len(got.things) < most {
			shorter = 1
		}
	}
	return shorter
}

func TestMany(t *testing.T) {
	shorter := 0
	for seed := range 1500 {
		shorter += checkMany(t, int64(seed))
	}
	if shorter < 400 {
		t.Errorf("of 1500 heaps less is left by looking deep of %d", shorter)
	}
}

// TestInTurn: a heap that is collected ever again, while it is written, is as one that never is.
func TestInTurn(t *testing.T) {
	for seed := range int64(300) {
		m := newMaker(seed)
		h, roots := m.heap(), []int(nil)
		for range 20 {
			if l := h.Objects(); len(l) > 0 {
				roots = append(roots, l[m.Intn(len(l))])
			}
			if len(roots) > 5 {
				roots = roots[1:]
			}
			deep := m.Intn(21)
			to, at, is := gc.Collect(h, roots, deep)
			if !is {
				t.Fatalf("P1201: Collect of roots %v is false", roots)
			}
			checkMatch(t, h, to, deep, roots, at)
			h, roots = to, at
			for range m.Intn(10) {
				m.alloc(h)
			}
		}
	}
}

// FuzzCollect may be given more time by hand: go test -fuzz FuzzCollect ./gc
func FuzzCollect(f *testing.F) {
	for seed := range 20 {
		f.Add(int64(10_000 + seed))
	}
	f.Fuzz(func(t *testing.T, seed int64) {
		checkMany(t, seed)
	})
}
