package machine

import (
	"slices"

	"thunk/api"
	"thunk/heap"
)

// hole is the address of the first object. It stands for none: the stack ends there, and to it points what is being reckoned, as nothing that is to be reckoned does.
const hole = 0

// mostPointers is how many pointers an object may have.
const mostPointers = 60

// store is a heap whose objects may have any number of pointers: the last one of as many as may be is to an object with those that are left.
type store struct {
	*heap.Heap
	lacks bool // words were asked for that there were not
}

// lay makes an object. Where words lack it is the hole; then all that is done is void.
func (s *store) lay(o object, ptrs ...int) int {
	if len(ptrs) >= mostPointers {
		rest := s.lay(object{tag: api.TFun}, ptrs[mostPointers-1:]...)
		ptrs = append(slices.Clone(ptrs[:mostPointers-1]), rest)
	}
	at, is := s.Alloc(o.tag, ptrs, o.nums)
	if !is {
		s.lacks = true
		return hole
	}
	return at
}

// row is all pointers of an object.
func (s *store) row(at int) []int {
	l := s.Ptrs(at)
	for part := l; len(part) == mostPointers; {
		part = s.Ptrs(part[mostPointers-1])
		l = append(l[:len(l)-1], part...)
	}
	return l
}

// fill has an object that was laid with as many pointers have these.
func (s *store) fill(at int, l ...int) {
	for len(l) >= mostPointers {
		s.fillOne(at, l[:mostPointers-1])
		at, l = s.Ptrs(at)[mostPointers-1], l[mostPointers-1:]
	}
	s.fillOne(at, l)
}

func (s *store) fillOne(at int, l []int) {
	for i, to := range l {
		s.Set(at, i, to)
	}
}

// isValue tells whether there is nothing to be reckoned of an object.
func (s *store) isValue(at int) bool {
	switch s.Tag(at) {
	case api.TInt, api.TCon, api.TFun, api.TAtom:
		return true
	}
	return false
}

// isAtom tells whether a value is that atom.
func (s *store) isAtom(at, atom int) bool {
	return s.Tag(at) == api.TAtom && s.Nums(at)[0] == atom
}
