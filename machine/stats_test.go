package machine_test

import (
	"math"
	"testing"

	"thunk/api"
	"thunk/machine"
)

// TestThunks: what is to be reckoned is a thunk; it is entered when it is forced, not more than once, and written over when it has come to its value.
func TestThunks(t *testing.T) {
	for _, c := range []struct {
		s                        string
		thunks, entered, updated int
	}{
		{"5", 0, 0, 0}, {"(+ 1 2)", 0, 0, 0}, {"input", 0, 0, 0}, {"(let ((x 5)) x)", 0, 0, 0}, {"(let ((x input)) (car x))", 0, 0, 0}, {"(let ((x 1) (y x)) (cons x y))", 0, 0, 0}, {"(let ((x (cons 1 2))) x)", 0, 0, 0},
		{"(let ((x (+ 1 2))) 5)", 1, 0, 0}, {"(let ((x (+ 1 2))) (+ x x))", 1, 1, 1}, {"(let ((x (+ 1 2))) (cons x x))", 1, 1, 1}, {"(let ((x (+ 1 2)) (y (* x x))) (+ y x))", 2, 2, 2}, {"(let ((x (error 1))) (cons 2 x))", 1, 1, 0}, {"(let ((x (error 1)) (y (+ 1 x))) y)", 2, 2, 0}, {"(let ((x (error 1)) (y (seq 2 3))) (+ y x))", 2, 2, 1},
		{"(let ((x (+ 1 x))) x)", 1, 1, 0}, {"(let ((x (car input))) x)", 1, 1, 1}, {"(let ((x (car input)) (y (cdr input))) x)", 2, 1, 1}, {"(let ((x (car x))) x)", 1, 1, 0}, {"(let ((x (car 5))) x)", 1, 1, 0},
		{"f x = (+ x x)|(let ((y (+ 1 2))) (f y))", 1, 1, 1}, {"f x = (let ((y (+ x 1))) (* y y))|(let ((a (f 1)) (b (f 2)) (c (cons a b))) (seq (+ a a) c))", 4, 4, 4}, {"f x y = x|(let ((y (error 1)) (x (seq 1 2))) (f x y))", 2, 1, 1}, {"f x y = (+ x y)|(let ((g (f 1)) (a (g 1)) (b (g 2))) (+ a b))", 3, 3, 3},
	} {
		n := meaningOf(program(t, c.s), seven())
		for _, gc := range [][]int{nil, {1, 2}} {
			o, s := n.run(t, api.Config{Heap: 1000, Fuel: 1000, Gc: gc, Input: seven()})
			if o != n.o || s.Thunks != c.thunks || s.Entered > c.entered || s.Updated > c.updated || gc == nil && (s.Entered != c.entered || s.Updated != c.updated) {
				t.Errorf("P1302: %v: %d thunks, %d entered, %d updated, not %d, %d, %d, of %s", o, s.Thunks, s.Entered, s.Updated, c.thunks, c.entered, c.updated, c.s)
			}
		}
	}
}

// TestCollections: a collection is made behind each step that is asked for, and no other, as long as words do not lack; behind the last step, too, whatever the run comes to.
func TestCollections(t *testing.T) {
	for _, p := range some(t) {
		n := meaningOf(p, seven())
		for _, early := range []bool{false, true} {
			c := api.Config{Heap: maxHeap, Fuel: maxFuel, Early: early, Input: seven()}
			most, all := n.run(t, c)
			last := all.Steps
			for _, gc := range [][]int{nil, {}, {0}, {-1, math.MinInt}, {1}, {2}, {1, 1, 1}, {last}, {last + 1}, {last + 1, last, last - 1, 0, last}, {1, math.MaxInt, 2, 1}, upTo(last), upTo(last + 5), append(upTo(last), upTo(last)...)} {
				c.Gc = gc
				o, s := n.run(t, c)
				if o != most || s.Collections != asked(gc, last) || s.Steps != last {
					t.Errorf("P1302: %d collections, not %d, %v, not %v, of\n%s", s.Collections, asked(gc, last), o, most, short(p))
				}
			}
		}
	}
}

// TestLastCollection: behind the last step there is one, where the run ends short, too.
func TestLastCollection(t *testing.T) {
	p := compiled(t, "(define (deep n) (+ 1 (deep n))) (deep 0)")
	n := meaningOf(p, nil)
	for fuel := range 50 {
		if _, s := n.run(t, api.Config{Heap: 10000, Fuel: fuel, Gc: []int{fuel, 0}}); s.Collections != min(fuel, 1) {
			t.Errorf("P1302: %d collections with fuel %d", s.Collections, fuel)
		}
	}
	_, most := n.run(t, api.Config{Heap: 300, Fuel: maxFuel})
	for _, gc := range [][]int{{most.Steps}, upTo(most.Steps)} {
		if o, s := n.run(t, api.Config{Heap: 300, Fuel: maxFuel, Gc: gc}); o != outcome("! heap") || s.Collections <= len(gc) {
			t.Errorf("P1302: %v, %d collections, %d asked for", o, s.Collections, len(gc))
		}
	}
}

// TestWords: the most that were used at once; fewer where it is collected more; never more than there are, and all of them where they do not do.
func TestWords(t *testing.T) {
	for _, p := range some(t) {
		n := meaningOf(p, seven())
		_, all := n.run(t, api.Config{Heap: maxHeap, Fuel: maxFuel, Input: seven()})
		_, least := n.run(t, api.Config{Heap: maxHeap, Fuel: maxFuel, Gc: upTo(all.Steps), Input: seven()})
		if all.Words <= 0 || least.Words > all.Words || least.Words <= 0 {
			t.Errorf("P1302: %d words, where it is collected %d, of\n%s", all.Words, least.Words, short(p))
		}
		if _, late := n.run(t, api.Config{Heap: maxHeap, Fuel: maxFuel, Gc: []int{all.Steps}, Input: seven()}); all.Words < 500 && late.Words < all.Words*3/5 {
			t.Errorf("P1302: %d words, where it is collected at the end, not %d, of\n%s", late.Words, all.Words, short(p))
		}
		for words := range 200 {
			o, s := n.run(t, api.Config{Heap: words, Fuel: maxFuel, Input: seven()})
			if o == outcome("! heap") && s.Words < words/4 {
				t.Errorf("P1302: with %d words too few, of which %d were used, of\n%s", words, s.Words, short(p))
			}
		}
	}
	if _, s := machine.Run(api.Prog{Main: integer("5")}, api.Config{Fuel: 1}); s != (machine.Stats{}) {
		t.Errorf("P1302: without words %+v", s)
	}
}
