package basis_test

import (
	"fmt"
	"slices"
	"testing"

	"enclave/api"
	"enclave/basis"
)

// roomy is a list with room behind its end, in which something stands that must neither change nor count.
func roomy[T any](l []T, behind ...T) []T { return append(slices.Clone(l), behind...)[:len(l)] }

// room is a list with all that stands behind its end.
func room[T any](l []T) []T { return l[:cap(l)] }

// scribble writes into lists, and into the room behind their ends.
func scribble(atoms []api.Atom, l ...[]int) {
	for i := range room(atoms) {
		room(atoms)[i] = api.Atom{Kind: 77, Rho: -7, Exn: "written"}
	}
	for _, l := range l {
		for i := range room(l) {
			room(l)[i] = -77
		}
	}
}

// whole is all that a basis answers.
func whole(b *basis.Basis) string {
	regions, vars := b.Count()
	s := fmt.Sprintln(regions, vars)
	for n := range max(regions, vars) {
		atoms, has := b.Has(n)
		come, of := b.Comes(n)
		s += fmt.Sprintln(n, b.Name(n), b.VarName(n), atoms, has, come, of)
	}
	return s
}

// handed is what calls are handed in.
type handed struct {
	atoms                   []api.Atom
	regions, ones, vars, of []int
}

// givenOf is what rises, or what doesn't, with room behind the ends of lists.
func givenOf(rises bool) handed {
	h := handed{[]api.Atom{get(2), get(5), put(3), exn("A")}, []int{1, 2, 4}, []int{2, 3, 5}, []int{1, 3, 5}, []int{0, 2, 6}}
	if !rises {
		h = handed{[]api.Atom{exn("A"), put(3), get(5), get(2), put(3)}, []int{4, 1, 2, 4}, []int{5, 2, 3}, []int{5, 3, 1, 3}, []int{6, 9, 0, -1, 2, 0}}
	}
	return handed{roomy(h.atoms, get(0), put(1)), roomy(h.regions, 0, 3), roomy(h.ones, 0, 6), roomy(h.vars, 2, 4), roomy(h.of, 3, 1)}
}

// tells are all calls with what is handed in.
func (h handed) tells(b *basis.Basis) {
	b.Add(2, h.atoms, h.vars...)
	b.Join(h.regions...)
	b.JoinVars(h.ones...)
	b.Add(0, h.atoms, h.vars...)
	b.Comes(h.of...)
	// These are false.
	b.Join(append(slices.Clip(h.regions), 99)...)
	b.Add(1, h.atoms, 99)
}

// text is all that is handed in, with the room.
func (h handed) text() string {
	return fmt.Sprint(room(h.atoms), room(h.regions), room(h.ones), room(h.vars), room(h.of))
}

func TestArgumentsStayAndAreNotKept(t *testing.T) {
	for _, rises := range []bool{true, false} {
		h, b := givenOf(rises), filled(6, 7)
		before := h.text()
		h.tells(b)
		if h.text() != before {
			t.Fatal("P0.4: what was handed in is changed")
		}
		other := filled(6, 7)
		handed{slices.Clip(h.atoms), slices.Clip(h.regions), slices.Clip(h.ones), slices.Clip(h.vars), slices.Clip(h.of)}.tells(other)
		want := whole(other)
		if whole(b) != want {
			t.Fatal("P0.4: what stands behind a list's end counts")
		}
		scribble(h.atoms, h.regions, h.ones, h.vars, h.of)
		if whole(b) != want {
			t.Fatal("P0.4: what was handed in is kept")
		}
		b.Add(3, []api.Atom{put(0)}, 4)
		b.JoinVars(1, 4)
		fresh := filled(6, 7)
		givenOf(rises).tells(fresh)
		fresh.Add(3, []api.Atom{put(0)}, 4)
		fresh.JoinVars(1, 4)
		if whole(b) != whole(fresh) {
			t.Fatal("P0.4: what was handed in is kept, as is seen of a later call")
		}
	}
}

func TestAnswersAreNewMemory(t *testing.T) {
	b := filled(6, 7)
	givenOf(false).tells(b)
	c := b.Copy()
	want := whole(b)
	for v := -1; v < 8; v++ {
		for _, ask := range []func(b *basis.Basis) ([]api.Atom, []int){
			func(b *basis.Basis) ([]api.Atom, []int) { return b.Has(v) },
			func(b *basis.Basis) ([]api.Atom, []int) { return b.Comes(v) },
			func(b *basis.Basis) ([]api.Atom, []int) { return b.Comes(v, 0, 3) },
		} {
			for _, x := range []*basis.Basis{b, c} {
				atoms, vars := ask(x)
				others, more := ask(x)
				kept := fmt.Sprint(others, more)
				scribble(atoms, vars)
				if fmt.Sprint(others, more) != kept {
					t.Fatal("P0.4: what is written into an answer changes another one")
				}
				if whole(b) != want || whole(c) != want {
					t.Fatal("P0.4: what is written into an answer changes a later one")
				}
			}
		}
	}
}

// TestAnswersAreToldAgain hands in what was answered: to the one that it is of nothing is new.
func TestAnswersAreToldAgain(t *testing.T) {
	b := filled(6, 7)
	givenOf(false).tells(b)
	want := whole(b)
	for v := range 7 {
		atoms, vars := b.Has(v)
		is(t, "Add of what it has", b.Add(v, atoms, vars...), true)
		is(t, "JoinVars of one", b.JoinVars(v, b.VarName(v), v), true)
		is(t, "Join of one", b.Join(b.Name(v%6), v%6), true)
		if got := whole(b); got != want {
			t.Fatalf("P16.1: with the same again: %s, want %s", got, want)
		}
	}
}

// TestCopiesShareNothing makes copies of copies, tells each of them something else, and takes none for another one.
func TestCopiesShareNothing(t *testing.T) {
	b := filled(6, 7)
	givenOf(true).tells(b)
	want := whole(b)
	var copies []*basis.Basis
	for n := range 7 {
		c := b.Copy()
		if len(copies) > 0 && n%2 == 0 {
			c = b.Copy().Copy()
		}
		copies = append(copies, c)
	}
	for n, c := range copies {
		c.Add(n, []api.Atom{put(n % 6)}, 6-n)
		c.Add(2, []api.Atom{get(n % 6), exn("B")}, n)
	}
	for n, c := range copies {
		c.Join(n%6, 5)
		c.JoinVars(n, 6)
	}
	for n, c := range copies {
		other := b.Copy()
		other.Add(n, []api.Atom{put(n % 6)}, 6-n)
		other.Add(2, []api.Atom{get(n % 6), exn("B")}, n)
		other.Join(n%6, 5)
		other.JoinVars(n, 6)
		if whole(c) != whole(other) {
			t.Errorf("P16.1, P0.6: the copy %d isn't as it was told: %s, want %s", n, whole(c), whole(other))
		}
	}
	if whole(b) != want {
		t.Error("P16.1, P0.6: what a copy is told changes what it was made of")
	}
}
