package gc

import (
	"slices"

	"thunk/heap"
)

// copier copies objects of the old heap into a new one.
type copier struct {
	old
	deep   int
	to     *heap.Heap
	copies []int // of each object of the old heap, where its copy is
	done   []int // which ones were copied, in that order
}

func newCopier(h *heap.Heap, deep int) *copier {
	return &copier{old: newOld(h), deep: deep, to: heap.New(h.Words()), copies: unknowns(h.Used())}
}

// copied are the addresses of the copies of what these lead to.
func (c *copier) copied(addresses ...int) []int {
	l := make([]int, len(addresses))
	for i, at := range addresses {
		l[i] = c.copyOf(c.short(at, c.deep))
	}
	return l
}

// copyOf is the address of an object's copy. A new one's pointers are to itself till they are copied, as a heap takes none to what is not in it. There is always room, as each object is copied but once, and in no more words than it lies in.
func (c *copier) copyOf(at int) int {
	if c.copies[at] == unknown {
		self := slices.Repeat([]int{c.to.Used()}, len(c.Ptrs(at)))
		c.copies[at], _ = c.to.Alloc(c.Tag(at), self, c.Nums(at))
		c.done = append(c.done, at)
	}
	return c.copies[at]
}

// lead has the pointers of all copies lead to copies. What is copied for that comes behind, and has its turn.
func (c *copier) lead() {
	for i := 0; i < len(c.done); i++ {
		at := c.done[i]
		for j, to := range c.copied(c.Ptrs(at)...) {
			c.to.Set(c.copies[at], j, to)
		}
	}
}
