package heap

import "thunk/api"

const (
	maxParts  = 60 // pointers of an object, and numbers
	leastSize = 2  // so that each object has room for a pointer that leads on
)

// head tells of the object that a word begins: its tag, how many pointers and numbers it has, and in how many words it lies. No object lies in 0 words: so there is none. A byte each will do, and there are many words.
type head struct{ tagByte, ptrsByte, numsByte, sizeByte uint8 }

func headOf(tag, ptrs, nums int) head {
	return head{uint8(tag), uint8(ptrs), uint8(nums), uint8(max(leastSize, 1+ptrs+nums))}
}

func (o head) is() bool  { return o.sizeByte > 0 }
func (o head) tag() int  { return int(o.tagByte) }
func (o head) ptrs() int { return int(o.ptrsByte) }
func (o head) nums() int { return int(o.numsByte) }
func (o head) size() int { return int(o.sizeByte) }

// leadOn has the object only lead on. It lies in as many words as it did, so that the ones behind it are found.
func (o *head) leadOn() {
	*o = head{tagByte: api.TInd, ptrsByte: 1, sizeByte: o.sizeByte}
}

// fits tells whether an object may have that tag, and these.
func fits(tag int, ptrs, nums []int) bool {
	if len(ptrs) > maxParts || len(nums) > maxParts {
		return false
	}
	switch tag {
	case api.TCon:
		return len(ptrs) == 2 && len(nums) == 0
	case api.TInd:
		return len(ptrs) == 1 && len(nums) == 0
	case api.TSel:
		return len(ptrs) == 1 && len(nums) == 1 && (nums[0] == 0 || nums[0] == 1)
	}
	return api.TInt <= tag && tag <= api.TAtom
}
