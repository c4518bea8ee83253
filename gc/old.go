package gc

import (
	"slices"

	"thunk/api"
	"thunk/heap"
)

// unknown stands for an address that is not known yet.
const unknown = -1

// old is the heap that is collected, which stays, and what was found out of it on the way.
type old struct {
	*heap.Heap
	ends  []int   // of what only leads on, where to
	picks [][]int // of what picks one of a pair, what it comes to, by how deep one may look
}

func newOld(h *heap.Heap) old {
	return old{h, unknowns(h.Used()), make([][]int, h.Used())}
}

func unknowns(n int) []int {
	return slices.Repeat([]int{unknown}, n)
}

// end is the first object from there on that does not only lead on; the one there, if it comes round. Each one that leads on is gone through once, however many lead to it: Follow would go through all of a long row for each of them.
func (o *old) end(at int) int {
	first, row := at, []int(nil)
	for o.Tag(at) == api.TInd && o.ends[at] == unknown {
		o.ends[at] = at // till it is seen to lead elsewhere: so what comes round stays as it is
		row = append(row, at)
		at = o.Ptrs(at)[0]
	}
	end := at
	if o.Tag(at) == api.TInd {
		end = o.ends[at]
	}
	if o.Tag(end) == api.TInd {
		return first
	}
	for _, at := range row {
		o.ends[at] = end
	}
	return end
}

// short is the object there, without what only leads on to it, and what picks it of a pair that is there. What picks is looked behind once only for each depth: else what picks of what picks would double the ways with each step.
func (o *old) short(at, deep int) int {
	a := o.end(at)
	if deep == 0 || o.Tag(a) != api.TSel {
		return a
	}
	if o.picks[a] == nil {
		o.picks[a] = unknowns(mostDeep + 1)
	}
	if o.picks[a][deep] == unknown {
		o.picks[a][deep] = o.pick(a, deep-1)
	}
	return o.picks[a][deep]
}

// pick is what is picked there, if the pair is; else what picks.
func (o *old) pick(a, deep int) int {
	pair := o.short(o.Ptrs(a)[0], deep)
	if o.Tag(pair) != api.TCon {
		return a
	}
	return o.short(o.Ptrs(pair)[o.Nums(a)[0]], deep)
}
