package chain_test

import (
	"math/rand"
	"reflect"
	"slices"
	"strconv"
	"testing"

	"thunk/api"
	"thunk/chain"
	"thunk/core"
)

func variable(name string) api.Expr { return api.Expr{Kind: api.EVar, Text: name} }

// term is one of at most so many in one another, mostly right, with room behind each list in which something stands.
func term(r *rand.Rand, most int) api.Expr {
	e := api.Expr{Kind: []int{api.EApp, api.EPrim, api.ELet, api.ELet, api.ELet}[r.Intn(5)]}
	n := r.Intn(3)
	if most == 0 {
		return variable("x" + strconv.Itoa(r.Intn(9)))
	}
	if e.Kind == api.ELet {
		for i := range max(n, 1) {
			e.Names = append(e.Names, "n"+strconv.Itoa(i))
		}
		n = len(e.Names) + 1
	}
	if r.Intn(9) == 0 {
		n = r.Intn(4)
	}
	for range n {
		e.A = append(e.A, term(r, r.Intn(most)))
	}
	e.A = append(e.A, variable("spare"), variable("spare"))[:len(e.A)]
	return e
}

// lasts is e, its last part, and so on, by calls.
func lasts(e api.Expr) []api.Expr {
	if len(e.A) == 0 {
		return []api.Expr{e}
	}
	return append([]api.Expr{e}, lasts(e.A[len(e.A)-1])...)
}

func TestOf(t *testing.T) {
	r := rand.New(rand.NewSource(1))
	for range 3000 {
		e := term(r, r.Intn(9))
		want := lasts(e)
		i := 0
		for x, ahead := range chain.Of(e) {
			if !reflect.DeepEqual(x, want[i]) || len(ahead) != max(0, len(x.A)-1) || len(ahead) > 0 && &ahead[0] != &x.A[0] {
				t.Fatalf("%d of %s: %s, %d ahead", i, core.Text(e), core.Text(x), len(ahead))
			}
			i++
		}
		if i != len(want) {
			t.Fatalf("%s: %d, not %d", core.Text(e), i, len(want))
		}
		row := chain.Of(e)
		for range 2 { // again, from the first on
			stop := r.Intn(len(want))
			i = 0
			for x := range row {
				if !reflect.DeepEqual(x, want[i]) {
					t.Fatalf("%d of %s is %s", i, core.Text(e), core.Text(x))
				}
				if i == stop {
					break
				}
				i++
			}
			if i != stop {
				t.Fatalf("%s: %d, not %d", core.Text(e), i, stop)
			}
		}
	}
}

// TestLets: what is taken apart is as it was, joined again; and what is put behind a list stands nowhere else.
func TestLets(t *testing.T) {
	r := rand.New(rand.NewSource(2))
	count := 0
	for range 3000 {
		e := term(r, r.Intn(9))
		text := core.Text(e)
		lets, body := chain.Lets(e)
		want := 0
		for _, x := range lasts(e) {
			if x.Kind != api.ELet || len(x.A) != len(x.Names)+1 {
				break
			}
			want++
		}
		if len(lets) != want || body.Kind == api.ELet && len(body.A) == len(body.Names)+1 {
			t.Fatalf("%s: %d lets, not %d, ahead of %s", text, len(lets), want, core.Text(body))
		}
		for _, let := range lets {
			if let.Kind != api.ELet || len(let.A) != len(let.Names) {
				t.Fatalf("%s: a let of %d names and %d parts", text, len(let.Names), len(let.A))
			}
		}
		made := chain.Join(append(slices.Clone(lets), variable("other"))...)
		if again := chain.Join(append(lets, body)...); !reflect.DeepEqual(again, e) || core.Text(e) != text {
			t.Fatalf("%s: joined again it is %s", text, core.Text(again))
		}
		if l := lasts(made); len(l) != want+1 || l[want].Text != "other" {
			t.Fatalf("%s: joined otherwise it is %s", text, core.Text(made))
		}
		count += want
	}
	if count < 1000 {
		t.Errorf("only %d lets", count)
	}
}

// TestLong: as long as memory is.
func TestLong(t *testing.T) {
	const long = 2000000
	e := variable("end")
	for range long {
		e = api.Expr{Kind: api.ELet, Names: []string{"x"}, A: []api.Expr{variable("y"), e}}
	}
	lets, body := chain.Lets(e)
	if len(lets) != long || body.Text != "end" {
		t.Errorf("%d lets", len(lets))
	}
	n := 0
	for range chain.Of(chain.Join(append(lets, body)...)) {
		n++
	}
	if n != long+1 {
		t.Errorf("%d terms", n)
	}
}
