package aterm_test

import (
	"fmt"
	"reflect"
	"slices"
	"strings"
	"testing"

	"enclave/api"
	"enclave/aterm"
)

// roomy is a term all whose lists have room behind their ends, in which something stands that must neither change nor count.
func roomy(t api.ATerm) api.ATerm {
	kids := make([]api.ATerm, 0, len(t.Kids)+2)
	for _, k := range t.Kids {
		kids = append(kids, roomy(k))
	}
	t.Kids = append(kids, region(88, num(1)), rec(num(1), num(1), 1, 99))[:len(t.Kids)]
	t.Rhos = append(slices.Clone(t.Rhos), 1, 1, -1)[:len(t.Rhos)]
	t.Eff = append(slices.Clone(t.Eff), get(88), put(0))[:len(t.Eff)]
	t.Type, t.Res = roomyType(t.Type), roomyType(t.Res)
	return t
}

func roomyType(t api.RType) api.RType {
	kids := make([]api.RType, 0, len(t.Kids)+2)
	for _, k := range t.Kids {
		kids = append(kids, roomyType(k))
	}
	t.Kids = append(kids, refType(88), api.RType{Rho: 99})[:len(t.Kids)]
	t.Eff = append(slices.Clone(t.Eff), get(88), put(0))[:len(t.Eff)]
	return t
}

// all is a term with all that stands behind its lists' ends.
func all(t api.ATerm) string {
	var b strings.Builder
	writeAll(&b, t)
	return b.String()
}

func writeAll(b *strings.Builder, t api.ATerm) {
	fmt.Fprint(b, "[", t.Head, t.Rho, len(t.Rhos), t.Rhos[:cap(t.Rhos)], len(t.Eff), t.Eff[:cap(t.Eff)], len(t.Kids))
	writeAllType(b, t.Type)
	writeAllType(b, t.Res)
	for _, k := range t.Kids[:cap(t.Kids)] {
		writeAll(b, k)
	}
	b.WriteString("]")
}

func writeAllType(b *strings.Builder, t api.RType) {
	fmt.Fprint(b, "<", t.Kind, t.Rho, len(t.Eff), t.Eff[:cap(t.Eff)], len(t.Kids))
	for _, k := range t.Kids[:cap(t.Kids)] {
		writeAllType(b, k)
	}
	b.WriteString(">")
}

// plainCells are where kids of a term without regions stand, those behind a list's end too, each as often as a list has it.
func plainCells(t api.Term, found map[any]int) {
	kids := t.Kids[:cap(t.Kids)]
	for i := range kids {
		found[&kids[i]]++
	}
	for _, k := range t.Kids {
		plainCells(k, found)
	}
}

// scribble writes into all that a term has, what is far within first.
func scribble(t api.ATerm) {
	for i := range t.Kids {
		scribble(t.Kids[i])
	}
	for i := range t.Kids[:cap(t.Kids)] {
		t.Kids[:cap(t.Kids)][i] = region(77)
	}
	scribbleInts(t.Rhos)
	for i := range t.Eff {
		t.Eff[i] = api.Atom{Kind: 77, Rho: -7, Exn: "written"}
	}
	for i := range t.Type.Kids {
		t.Type.Kids[i] = api.RType{Kind: 77}
	}
}

// scribblePlain writes into all that a term without regions has.
func scribblePlain(t api.Term) {
	for i := range t.Kids {
		scribblePlain(t.Kids[i])
	}
	for i := range t.Kids[:cap(t.Kids)] {
		t.Kids[:cap(t.Kids)][i] = api.Term{Head: api.Head{Kind: 77, Name: "written"}}
	}
}

// scribbleInts writes into a list, and into the room behind its end.
func scribbleInts(l []int) {
	for i := range l[:cap(l)] {
		l[:cap(l)][i] = -77
	}
}

// samples are terms of which answers share memory most easily: with nothing to do, or with much.
func samples() []api.ATerm {
	l := []api.ATerm{num(1), region(1, num(1)), region(1), rec(num(1), num(1), 1, 2, 3), region(1, of(8, num(1), num(2))), of(8, region(1, of(4, num(1))), rec(num(1), num(1), 2)), big(), mixed(), {}}
	for _, r := range kindRows {
		l = append(l, full(r))
	}
	return l
}

func TestArgumentsStay(t *testing.T) {
	for _, x := range samples() {
		tight := x
		x = roomy(x)
		l := append([]api.ATerm{x, tight}, api.ATerm{}, region(55, num(1)))[:2]
		before, kept := all(x), slices.Clone(l[:4])
		place, apart := aterm.Apart(tight)
		for range 2 { // what was asked ahead counts for nothing
			holds(t, x)
			if at, is := aterm.Apart(x); at != place || is != apart || aterm.May(x) != aterm.May(tight) || !aterm.Same(x, tight) || !aterm.Same(tight, x) || plainly(aterm.Erase(x)) != plainly(aterm.Erase(tight)) {
				t.Fatal("P0.4: what stands behind lists' ends counts:", exactly(tight))
			}
			if !slices.Equal(aterm.Binds(l...), slices.Repeat(aterm.Binds(tight), 2)) || aterm.Size(l...) != 2*aterm.Size(tight) {
				t.Fatal("P0.4: what stands behind lists' ends counts:", exactly(tight))
			}
			if all(x) != before || !reflect.DeepEqual(l[:4], kept) {
				t.Fatal("P0.4: what was handed in is changed:", exactly(tight))
			}
		}
	}
}

func TestErasedIsNewMemory(t *testing.T) {
	for _, x := range samples() {
		x = roomy(clone(x))
		before := all(x)
		a, b := aterm.Erase(x), aterm.Erase(x)
		want := plainly(a)
		found := map[any]int{}
		plainCells(a, found)
		plainCells(b, found)
		for _, n := range found {
			if n > 1 {
				t.Fatal("P0.4: an answer of Erase shares memory:", exactly(x))
			}
		}
		scribblePlain(a)
		if all(x) != before || plainly(b) != want || plainly(aterm.Erase(x)) != want {
			t.Fatal("P0.4: what is written into an answer of Erase is seen elsewhere:", exactly(x))
		}
		scribble(x)
		if plainly(b) != want {
			t.Fatal("P0.4: what was handed in to Erase is kept")
		}
	}
}

func TestBindsAreNewMemory(t *testing.T) {
	for _, x := range samples() {
		x = roomy(clone(x))
		before := all(x)
		a, b := aterm.Binds(x), aterm.Binds(x)
		want := fmt.Sprint(b)
		scribbleInts(a)
		if all(x) != before || fmt.Sprint(b) != want || fmt.Sprint(aterm.Binds(x)) != want {
			t.Fatal("P0.4: what is written into an answer of Binds is seen elsewhere:", exactly(x))
		}
		scribble(x)
		if fmt.Sprint(b) != want {
			t.Fatal("P0.4: what was handed in to Binds is kept")
		}
	}
}

// TestOneListInSeveralPlaces hands in terms that share memory with one another.
func TestOneListInSeveralPlaces(t *testing.T) {
	rhos, e, i := []int{1, 2}, []api.Atom{get(1), put(2)}, refType(3)
	kids := []api.ATerm{num(1), region(4, num(2))}
	x := rec(num(1), num(2), rhos...)
	x.Rhos, x.Eff, x.Type, x.Res = rhos, e, i, i
	inst := api.ATerm{Head: api.Head{Kind: 18, Name: "f", At: 3}, Rhos: rhos, Eff: e}
	x.Kids = []api.ATerm{of(8, kids...), of(14, of(10, kids...), inst, inst)}
	holds(t, x)
	if !aterm.May(x) || !slices.Equal(aterm.Binds(x, x), []int{1, 2, 4, 4, 1, 2, 4, 4}) {
		t.Error("P13.1: of shared lists")
	}
	found := map[any]int{}
	plainCells(aterm.Erase(x), found)
	for _, n := range found {
		if n > 1 {
			t.Fatal("P0.4: two lists of an answer share memory")
		}
	}
	if !slices.Equal(rhos, []int{1, 2}) || !slices.Equal(e, []api.Atom{get(1), put(2)}) {
		t.Error("P0.4: what was handed in is changed")
	}
}
