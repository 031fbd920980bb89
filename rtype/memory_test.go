package rtype_test

import (
	"fmt"
	"reflect"
	"slices"
	"testing"

	"enclave/api"
	"enclave/rtype"
)

// roomy is a type all whose lists have room behind their ends, in which something stands that must neither change nor count.
func roomy(t api.RType) api.RType {
	kids := make([]api.RType, 0, len(t.Kids)+2)
	for _, k := range t.Kids {
		kids = append(kids, roomy(k))
	}
	t.Kids = append(kids, ref(88, num()), api.RType{Rho: 99})[:len(t.Kids)]
	t.Eff = append(slices.Clone(t.Eff), get(88), put(0))[:len(t.Eff)]
	return t
}

// roomyInts is a list with room behind its end.
func roomyInts(l ...int) []int { return append(slices.Clone(l), 0, 1, 2)[:len(l)] }

// all is a type with all that stands behind its lists' ends.
func all(t api.RType) string {
	s := fmt.Sprint("[", t.Kind, t.Rho, len(t.Eff), t.Eff[:cap(t.Eff)], len(t.Kids))
	for _, k := range t.Kids[:cap(t.Kids)] {
		s += all(k)
	}
	return s + "]"
}

// cells are where kids and atoms stand, those behind a list's end too, each as often as a list has it.
func cells(l ...api.RType) map[any]int {
	found := map[any]int{}
	for _, x := range nodes(l...) {
		kids, eff := x.Kids[:cap(x.Kids)], x.Eff[:cap(x.Eff)]
		for i := range kids {
			found[&kids[i]]++
		}
		for i := range eff {
			found[&eff[i]]++
		}
	}
	return found
}

// plainCells are where kids of a type without regions stand.
func plainCells(t api.Type, found map[any]int) {
	kids := t.Kids[:cap(t.Kids)]
	for i := range kids {
		found[&kids[i]]++
	}
	for _, k := range t.Kids {
		plainCells(k, found)
	}
}

// scribble writes into all that a type has, what is far within first.
func scribble(t api.RType) {
	for i := range t.Kids {
		scribble(t.Kids[i])
	}
	for i := range t.Kids[:cap(t.Kids)] {
		t.Kids[:cap(t.Kids)][i] = api.RType{Kind: 77, Rho: 77}
	}
	for i := range t.Eff[:cap(t.Eff)] {
		t.Eff[:cap(t.Eff)][i] = api.Atom{Kind: 77, Rho: -7, Exn: "written"}
	}
}

// scribblePlain writes into all that a type without regions has.
func scribblePlain(t api.Type) {
	for i := range t.Kids {
		scribblePlain(t.Kids[i])
		t.Kids[i] = api.Type{Kind: 77, Var: 77}
	}
}

// scribbleInts writes into a list, and into the room behind its end.
func scribbleInts(l []int) {
	for i := range l[:cap(l)] {
		l[:cap(l)][i] = -77
	}
}

// samples are types of which answers share memory most easily: with nothing to do, or with much.
func samples() []api.RType {
	i := api.RType{Kind: 1, Rho: 1, Eff: []api.Atom{put(1), get(1)}, Kids: []api.RType{num()}}
	return []api.RType{num(), i, ref(1, i), fn(2, num(), pair(1, num(), num()), get(1), put(2)), big(), mixed()}
}

func TestArgumentsStay(t *testing.T) {
	for _, x := range samples() {
		tight := x
		x = roomy(x)
		from, to := roomyInts(1, 2), roomyInts(2, 3)
		l := append([]api.RType{x, tight}, api.RType{}, ref(55, num()))[:2]
		before, kept := all(x), slices.Clone(l[:4])
		for range 2 { // what was asked ahead counts for nothing
			holds(t, x)
			if rtype.May(x) != rtype.May(tight) || !rtype.Same(x, tight) || !slices.Equal(rtype.Rhos(x), rtype.Rhos(tight)) || rtype.Size(l...) != 2*rtype.Size(tight) || rtype.May(l...) != rtype.May(tight) || !slices.Equal(rtype.Rhos(l...), rtype.Rhos(tight)) {
				t.Fatal("P0.4: what stands behind lists' ends counts:", exactly(tight))
			}
			if plainly(rtype.Bare(x)) != plainly(rtype.Bare(tight)) || exactly(rtype.Swap(x, from, to)) != exactly(rtype.Swap(tight, []int{1, 2}, []int{2, 3})) {
				t.Fatal("P0.4: what stands behind lists' ends counts for Bare or Swap:", exactly(tight))
			}
			rtype.Text(x)
			if all(x) != before || !reflect.DeepEqual(l[:4], kept) || !slices.Equal(from[:5], []int{1, 2, 0, 1, 2}) || !slices.Equal(to[:5], []int{2, 3, 0, 1, 2}) {
				t.Fatal("P0.4: what was handed in is changed:", exactly(tight))
			}
		}
	}
}

func TestAnswersAreNewMemory(t *testing.T) {
	for _, x := range samples() {
		for _, p := range rhoPairs {
			x := roomy(x)
			before := all(x)
			theirs := cells(x)
			a, b := rtype.Swap(x, p[0], p[1]), rtype.Swap(x, p[0], p[1])
			want := exactly(a)
			for place, n := range cells(a, b) {
				if n > 1 || theirs[place] > 0 {
					t.Fatal("P0.4: an answer of Swap shares memory:", exactly(x))
				}
			}
			scribble(a)
			if all(x) != before || exactly(b) != want || exactly(rtype.Swap(x, p[0], p[1])) != want {
				t.Fatal("P0.4: what is written into an answer of Swap is seen elsewhere:", exactly(x))
			}
			scribble(x)
			if exactly(b) != want {
				t.Fatal("P0.4: what was handed in to Swap is kept")
			}
		}
	}
}

func TestBareAndRhosAreNewMemory(t *testing.T) {
	for _, x := range samples() {
		before := exactly(x)
		a, b := rtype.Bare(x), rtype.Bare(x)
		want := plainly(a)
		found := map[any]int{}
		plainCells(a, found)
		plainCells(b, found)
		for _, n := range found {
			if n > 1 {
				t.Fatal("P0.4: an answer of Bare shares memory:", exactly(x))
			}
		}
		scribblePlain(a)
		if exactly(x) != before || plainly(b) != want || plainly(rtype.Bare(x)) != want {
			t.Fatal("P0.4: what is written into an answer of Bare is seen elsewhere:", exactly(x))
		}
		r, s := rtype.Rhos(x), rtype.Rhos(x)
		rhos := fmt.Sprint(s)
		scribbleInts(r)
		if exactly(x) != before || fmt.Sprint(s) != rhos || fmt.Sprint(rtype.Rhos(x)) != rhos {
			t.Fatal("P0.4: what is written into an answer of Rhos is seen elsewhere:", exactly(x))
		}
		x := clone(x)
		b, s = rtype.Bare(x), rtype.Rhos(x)
		scribble(x)
		if plainly(b) != want || fmt.Sprint(s) != rhos {
			t.Fatal("P0.4: what was handed in is kept")
		}
	}
}

// TestOneListInSeveralPlaces hands in types and lists that share memory with one another.
func TestOneListInSeveralPlaces(t *testing.T) {
	e := []api.Atom{get(1), put(2)}
	kids := []api.RType{num(), fn(1, num(), num(), e...)}
	x := api.RType{Kind: 4, Rho: 2, Eff: e, Kids: []api.RType{{Kind: 2, Rho: 1, Kids: kids}, {Kind: 2, Rho: 2, Kids: kids}}}
	rhos := []int{1, 2}
	holds(t, x)
	if !rtype.Same(rtype.Swap(x, rhos, rhos), x) {
		t.Error("P12.1: Swap of regions with themselves")
	}
	y := rtype.Swap(x, rhos[:1], rhos[1:])
	if s, _ := rtype.Text(y); s != "( ( int * ( int -> int ! get 2 , put 2 @ 2 ) @ 2 ) -> ( int * ( int -> int ! get 2 , put 2 @ 2 ) @ 2 ) ! get 2 , put 2 @ 2 )" {
		t.Errorf("P12.1: Swap of pieces of one list: %q", s)
	}
	for _, n := range cells(y) {
		if n > 1 {
			t.Fatal("P0.4: two lists of an answer share memory")
		}
	}
	bare := map[any]int{}
	plainCells(rtype.Bare(x), bare)
	for _, n := range bare {
		if n > 1 {
			t.Fatal("P0.4: two lists of an answer of Bare share memory")
		}
	}
	if !slices.Equal(rhos, []int{1, 2}) || !slices.Equal(e, []api.Atom{get(1), put(2)}) {
		t.Error("P0.4: what was handed in is changed")
	}
}
