package heap

// word begins an object, by its head, or is a pointer or number of one, by its value.
type word struct {
	head
	value int
}

// row is words in which objects lie, one behind the other. It is as long as these: room is made when it is asked for, as many a heap stays nearly empty.
type row struct{ words []word }

// end is where the next object comes to lie.
func (r *row) end() int {
	return len(r.words)
}

// head is that of the object at an address; it is none, where none begins.
func (r *row) head(at int) head {
	if at < 0 || at >= r.end() {
		return head{}
	}
	return r.words[at].head
}

// beyond tells whether an address is no object's, nor will be the next one's.
func (r *row) beyond(at int) bool {
	return at != r.end() && !r.head(at).is()
}

// put lays an object behind all others, and tells where.
func (r *row) put(o head, ptrs, nums []int) int {
	at := r.end()
	r.words = append(r.words, make([]word, o.size())...)
	r.words[at].head = o
	r.fill(at+1, ptrs)
	r.fill(at+1+len(ptrs), nums)
	return at
}

func (r *row) fill(from int, values []int) {
	for i, value := range values {
		r.words[from+i].value = value
	}
}

// values are a copy of those of so many words.
func (r *row) values(from, many int) []int {
	l := make([]int, many)
	for i := range l {
		l[i] = r.words[from+i].value
	}
	return l
}
