package heap_test

import (
	"math/rand"
	"slices"
	"strconv"
	"testing"

	"thunk/api"
	"thunk/heap"
)

// slowThing is an object, where it lies, and in how many words.
type slowThing struct {
	thing
	at, size int
}

// slowHeap keeps objects as they are read, and looks through all of them.
type slowHeap struct {
	words  int
	things []slowThing
}

func (s *slowHeap) used() (n int) {
	for _, x := range s.things {
		n += x.size
	}
	return n
}

func (s *slowHeap) find(at int) *slowThing {
	for i := range s.things {
		if s.things[i].at == at {
			return &s.things[i]
		}
	}
	return nil
}

func (s *slowHeap) alloc(tag int, ptrs, nums []int) (int, bool) {
	used := s.used()
	form := strconv.Itoa(tag) + "," + strconv.Itoa(len(ptrs)) + "," + strconv.Itoa(len(nums))
	switch {
	case !slices.Contains([]int{1, 2, 3, 4, 5, 6, 7}, tag), len(ptrs) >= 61, len(nums) >= 61:
		return 0, false
	case tag == api.TCon && form != "2,2,0", tag == api.TInd && form != "5,1,0", tag == api.TSel && form != "6,1,1":
		return 0, false
	case tag == api.TSel && !slices.Contains([]int{0, 1}, nums[0]):
		return 0, false
	}
	for _, to := range ptrs {
		if s.find(to) == nil && to != used {
			return 0, false
		}
	}
	size := 1 + len(ptrs) + len(nums)
	if size == 1 {
		size = 2
	}
	if s.words-used < size {
		return 0, false
	}
	s.things = append(s.things, slowThing{thing{tag, slices.Clone(ptrs), slices.Clone(nums)}, used, size})
	return used, true
}

func (s *slowHeap) set(at, i, to int) bool {
	x := s.find(at)
	if x == nil || s.find(to) == nil {
		return false
	}
	for j := range x.ptrs {
		if j == i {
			x.ptrs[j] = to
			return true
		}
	}
	return false
}

func (s *slowHeap) over(at, to int) bool {
	x := s.find(at)
	if x == nil || s.find(to) == nil || at == to {
		return false
	}
	x.thing = thing{api.TInd, []int{to}, nil}
	return true
}

// follow goes as many steps as there are objects: who is not there then comes round.
func (s *slowHeap) follow(at int) int {
	for range len(s.things) + 1 {
		x := s.find(at)
		if x == nil {
			return -1
		}
		if x.tag != api.TInd {
			return at
		}
		at = x.ptrs[0]
	}
	return -1
}

func (s *slowHeap) all() show {
	a := show{used: s.used(), words: s.words}
	for _, x := range s.things {
		a.objects = append(a.objects, x.at)
	}
	for at := -1; at <= a.used; at++ {
		x := thing{}
		if o := s.find(at); o != nil {
			x = o.thing
		}
		a.things, a.follow = append(a.things, x), append(a.follow, s.follow(at))
	}
	return a
}

// maker makes calls, of which some are refused.
type maker struct {
	*rand.Rand
	h    *heap.Heap
	slow *slowHeap
	done [6]int // of each call, how many were refused, and were not
}

func newMaker(seed int64) *maker {
	r := rand.New(rand.NewSource(seed))
	words := r.Intn(120)
	return &maker{r, heap.New(words), &slowHeap{words: words}, [6]int{}}
}

// address is mostly that of an object.
func (m *maker) address() int {
	l := m.h.Objects()
	switch {
	case len(l) > 0 && m.Intn(40) > 0:
		return l[m.Intn(len(l))]
	case m.Intn(4) == 0:
		return far()[m.Intn(len(far()))]
	}
	return m.Intn(m.h.Used()+4) - 1
}

func (m *maker) parts() (ptrs, nums []int) {
	for range m.Intn(5) % 4 {
		if m.Intn(6) == 0 {
			ptrs = append(ptrs, m.h.Used())
		} else {
			ptrs = append(ptrs, m.address())
		}
	}
	for range m.Intn(3) {
		nums = append(nums, m.Intn(3))
	}
	if m.Intn(50) == 0 {
		nums = append(nums, same(55+m.Intn(10), -1)...)
	}
	return ptrs, nums
}

func (m *maker) count(call int, is bool) {
	if is {
		call += 3
	}
	m.done[call]++
}

// call makes one call of both, and holds what they answer against each other.
func (m *maker) call(t *testing.T) {
	t.Helper()
	switch m.Intn(4) {
	case 0, 1:
		tag := m.Intn(9)
		ptrs, nums := m.parts()
		at, is := m.h.Alloc(tag, ptrs, nums)
		wantAt, want := m.slow.alloc(tag, ptrs, nums)
		if at != wantAt || is != want {
			t.Fatalf("P1101: Alloc(%d, %v, %v) is %d, %v, not %d, %v", tag, ptrs, nums, at, is, wantAt, want)
		}
		m.count(0, is)
	case 2:
		at, i, to := m.address(), m.Intn(4)-1, m.address()
		is, want := m.h.Set(at, i, to), m.slow.set(at, i, to)
		if is != want {
			t.Fatalf("P1102: Set(%d, %d, %d) is %v", at, i, to, is)
		}
		m.count(1, is)
	case 3:
		at, to := m.address(), m.address()
		is, want := m.h.Over(at, to), m.slow.over(at, to)
		if is != want {
			t.Fatalf("P1102: Over(%d, %d) is %v", at, to, is)
		}
		m.count(2, is)
	}
}

// checkMany holds a row of calls against the slow way: after each of them, all that the heap tells.
func checkMany(t *testing.T, seed int64, calls int) [6]int {
	t.Helper()
	m := newMaker(seed)
	for range calls {
		m.call(t)
		if got, want := all(m.h), m.slow.all(); !got.is(want) {
			t.Fatalf("P1101, P1102: %v, not %v", got, want)
		}
		for _, at := range far() {
			if m.h.Tag(at) != 0 || len(m.h.Ptrs(at)) != 0 || len(m.h.Nums(at)) != 0 || m.h.Follow(at) != -1 {
				t.Fatalf("P1101: at %d is %v", at, read(m.h, at))
			}
		}
	}
	return m.done
}

func TestMany(t *testing.T) {
	done := [6]int{}
	for seed := range 600 {
		for i, n := range checkMany(t, int64(seed), 90) {
			done[i] += n
		}
	}
	if slices.Min(done[:]) < 1000 {
		t.Errorf("refused, and not: %v", done)
	}
}

// FuzzHeap may be given more time by hand: go test -fuzz FuzzHeap ./heap
func FuzzHeap(f *testing.F) {
	for seed := range 20 {
		f.Add(int64(1000 + seed))
	}
	f.Fuzz(func(t *testing.T, seed int64) {
		checkMany(t, seed, 150)
	})
}
