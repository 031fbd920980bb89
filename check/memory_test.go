package check_test

import (
	"fmt"
	"math/rand"
	"slices"
	"strings"
	"testing"

	"enclave/api"
	"enclave/check"
)

// whole is all that there is of a term.
func whole(t api.ATerm) string {
	var b strings.Builder
	write(&b, t)
	return b.String()
}

func write(b *strings.Builder, t api.ATerm) {
	fmt.Fprintf(b, "[%d %d %d %d %q %q %q %d %d %v ", t.Kind, t.Op, t.At, t.N, t.Name, t.Arg, t.Exn, t.Rho, t.Rhos, t.Eff)
	writeType(b, t.Type)
	writeType(b, t.Res)
	for _, k := range t.Kids {
		write(b, k)
	}
	b.WriteString("]")
}

// roomy is a term all whose lists have room behind their ends, in which something stands that must neither change nor count.
func roomy(t api.ATerm) api.ATerm {
	kids := make([]api.ATerm, 0, len(t.Kids)+2)
	for _, k := range t.Kids {
		kids = append(kids, roomy(k))
	}
	t.Kids = append(kids, name("room"), api.ATerm{})[:len(t.Kids)]
	t.Rhos = append(slices.Clone(t.Rhos), 1, 1, -1)[:len(t.Rhos)]
	t.Eff = append(slices.Clone(t.Eff), get(88), put(0))[:len(t.Eff)]
	t.Type, t.Res = roomyType(t.Type), roomyType(t.Res)
	return t
}

func roomyType(y api.RType) api.RType {
	kids := make([]api.RType, 0, len(y.Kids)+2)
	for _, k := range y.Kids {
		kids = append(kids, roomyType(k))
	}
	y.Kids = append(kids, refType(88, intType()), api.RType{Rho: 99})[:len(y.Kids)]
	y.Eff = append(slices.Clone(y.Eff), get(88), put(0))[:len(y.Eff)]
	return y
}

// all is a term with all that stands behind its lists' ends.
func all(t api.ATerm) string {
	var b strings.Builder
	writeAll(&b, t)
	return b.String()
}

func writeAll(b *strings.Builder, t api.ATerm) {
	fmt.Fprint(b, "[", t.Head, t.Rho, len(t.Rhos), t.Rhos[:cap(t.Rhos)], len(t.Eff), t.Eff[:cap(t.Eff)], len(t.Kids))
	writeAllType(b, t.Type)
	writeAllType(b, t.Res)
	for _, k := range t.Kids[:cap(t.Kids)] {
		writeAll(b, k)
	}
	b.WriteString("]")
}

func writeAllType(b *strings.Builder, y api.RType) {
	fmt.Fprint(b, "<", y.Kind, y.Rho, len(y.Eff), y.Eff[:cap(y.Eff)], len(y.Kids))
	for _, k := range y.Kids[:cap(y.Kids)] {
		writeAllType(b, k)
	}
	b.WriteString(">")
}

// cells are where kids and atoms of a type stand, those behind a list's end too, each as often as a list has it.
func cells(y api.RType, found map[any]int) {
	kids := y.Kids[:cap(y.Kids)]
	for i := range kids {
		found[&kids[i]]++
	}
	atomCells(y.Eff, found)
	for _, k := range y.Kids {
		cells(k, found)
	}
}

func atomCells(e []api.Atom, found map[any]int) {
	e = e[:cap(e)]
	for i := range e {
		found[&e[i]]++
	}
}

// termCells are where types and effects of a term stand.
func termCells(t api.ATerm, found map[any]int) {
	cells(t.Type, found)
	cells(t.Res, found)
	atomCells(t.Eff, found)
	for _, k := range t.Kids {
		termCells(k, found)
	}
}

// scribbleType writes into all that a type has, what is far within first.
func scribbleType(y api.RType) {
	for _, k := range y.Kids {
		scribbleType(k)
	}
	for i := range y.Kids[:cap(y.Kids)] {
		y.Kids[:cap(y.Kids)][i] = api.RType{Kind: 77}
	}
	scribbleEff(y.Eff)
}

func scribbleEff(e []api.Atom) {
	for i := range e[:cap(e)] {
		e[:cap(e)][i] = api.Atom{Kind: 77, Rho: -7, Exn: "written"}
	}
}

// scribble writes into all that a term has.
func scribble(t api.ATerm) {
	for _, k := range t.Kids {
		scribble(k)
	}
	for i := range t.Kids {
		t.Kids[i] = api.ATerm{Head: api.Head{Kind: 77}}
	}
	for i := range t.Rhos {
		t.Rhos[i] = -77
	}
	scribbleEff(t.Eff)
	scribbleType(t.Type)
	scribbleType(t.Res)
}

// samples are right terms whose types and effects have much that could be shared, and some that aren't right.
func samples(t *testing.T) []api.ATerm {
	y := "( ( int * int @ 0 ) -> ( ( ref int @ 0 ) -> int ! get 0 , exn E @ 0 ) ! get 0 , put 0 , exn F @ 0 )"
	var l []api.ATerm
	for _, s := range []string{
		"1",
		"( 1 , 2 @ 0 )",
		"( raise E 1 : " + y + " )",
		"( let x = ( raise E 1 : " + y + " ) in ( x , ( x , ( ref x @ 0 ) @ 0 ) @ 0 ) )",
		"( fn x : " + y + " ! get 0 , put 0 => ( x , x @ 0 ) @ 0 )",
		"( ( fn x : int ! get 0 , put 0 , exn E => ( raise E x : " + y + " ) @ 0 ) 1 )",
		"( letrec f [ 1 ] x : ( ref int @ 1 ) -> ( ref int @ 1 ) ! get 1 , exn E = x @ 0 in ( f [ 0 ] ! get 0 , exn E @ 0 ) )",
		"( letrec f [ ] x : " + y + " -> " + y + " ! get 0 = x @ 0 in ( ( f [ ] ! get 0 , put 0 @ 0 ) , ( f [ ] ! get 0 @ 0 ) @ 0 ) )",
		"( region 1 in ( try ( raise E ( fst ( 1 , 2 @ 1 ) ) : " + y + " ) with E x => ( raise F x : " + y + " ) ) )",
		"( if 1 then ( raise E 1 : " + y + " ) else ( raise F 1 : " + y + " ) )",
		"( fst ( ( raise E 1 : " + y + " ) , ( raise F 1 : " + y + " ) @ 0 ) )",
		"( fn x : int ! none => ( ref x @ 0 ) @ 0 )",
		"( region 1 in ( ref 1 @ 1 ) )",
		"( 1 1 )",
	} {
		l = append(l, read(t, s))
	}
	for seed := range int64(300) {
		g := &grower{Rand: rand.New(rand.NewSource(seed))}
		l = append(l, grow(g, 30))
	}
	return l
}

// answer is all that is answered of a term.
func answer(x api.ATerm) string {
	y, may, at, e := check.Check(x)
	return fmt.Sprint(typeText(y), may, at, e, check.Row(x))
}

func TestArgumentsStay(t *testing.T) {
	for _, tight := range samples(t) {
		x := roomy(tight)
		before, want := all(x), answer(tight)
		for range 2 { // what was asked ahead counts for nothing
			if answer(x) != want {
				t.Fatalf("P0.4, P0.6: another answer of the same: %.600s", shown(tight))
			}
			if all(x) != before {
				t.Fatalf("P0.4: what was handed in is changed: %.600s", shown(tight))
			}
			check.Check(in(1, 17, of(4, name("x"))))
		}
	}
}

func TestAnswersAreNewMemory(t *testing.T) {
	for _, tight := range samples(t) {
		x := roomy(clone(tight))
		before, want := all(x), answer(x)
		y, may, _, _ := check.Check(x)
		z, still, _, _ := check.Check(x)
		found := map[any]int{}
		cells(y, found)
		cells(z, found)
		atomCells(may, found)
		atomCells(still, found)
		termCells(x, found)
		own := map[any]int{}
		termCells(x, own)
		for c, n := range found {
			if n > max(own[c], 1) {
				t.Fatalf("P0.4: an answer shares memory: %.600s", shown(tight))
			}
		}
		row := check.Row(x)
		for i := range row[:cap(row)] {
			row[:cap(row)][i] = "written"
		}
		scribbleType(y)
		scribbleEff(may)
		if all(x) != before || answer(x) != want {
			t.Fatalf("P0.4: what is written into an answer is seen elsewhere: %.600s", shown(tight))
		}
		last, kept := typeText(z), setOf(still...).text()
		scribble(x)
		if typeText(z) != last || setOf(still...).text() != kept {
			t.Fatalf("P0.4: what was handed in is kept: %.600s", shown(tight))
		}
	}
}

// TestOneListInSeveralPlaces hands in a term whose nodes share memory.
func TestOneListInSeveralPlaces(t *testing.T) {
	e, y := []api.Atom{get(0), put(0)}, []api.RType{intType(), intType()}
	pair := api.RType{Kind: 2, Kids: y}
	kids := []api.ATerm{num(1), num(2)}
	f := fn("x", pair, of(3, kids...), e...)
	both := []api.ATerm{f, of(3, kids...)}
	f.Kids = []api.ATerm{of(10, both...)}
	f.Kids[0].Kids[0].Kids = []api.ATerm{name("x")}
	x := of(10, f, of(3, kids...))
	right(t, x, "( int * int @ 0 )", "get 0 , put 0")
	if !slices.Equal(e, []api.Atom{get(0), put(0)}) || typeText(pair) != typeText(pairType(0, intType(), intType())) {
		t.Error("P0.4: what was handed in is changed")
	}
}

func TestNilAndEmptyLists(t *testing.T) {
	for _, none := range samples(t)[:14] {
		want := answer(none)
		for set := range 1 << 3 {
			x := clone(none)
			for _, n := range nodesOf(&x) {
				if set&1 == 1 && len(n.Kids) == 0 {
					n.Kids = []api.ATerm{}
				}
				if set&2 == 2 && len(n.Rhos) == 0 {
					n.Rhos = []int{}
				}
				if set&4 == 4 && len(n.Eff) == 0 {
					n.Eff, n.Type.Eff, n.Res.Eff = []api.Atom{}, append([]api.Atom{}, n.Type.Eff...), append([]api.Atom{}, n.Res.Eff...)
				}
			}
			if got := answer(x); got != want {
				t.Errorf("P0.5: with empty lists: %.300s, want %.300s", got, want)
			}
		}
	}
}
