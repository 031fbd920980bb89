package display_test

import (
	"fmt"
	"slices"
	"strings"
	"testing"

	"enclave/api"
	"enclave/display"
)

// roomy is a term all whose lists have room behind their ends, in which something stands that must neither change nor count.
func roomy(t api.ATerm) api.ATerm {
	kids := make([]api.ATerm, 0, len(t.Kids)+2)
	for _, k := range t.Kids {
		kids = append(kids, roomy(k))
	}
	t.Kids = append(kids, name("room"), api.ATerm{})[:len(t.Kids)]
	t.Rhos = append(slices.Clone(t.Rhos), 1, 1, -1)[:len(t.Rhos)]
	t.Eff = append(slices.Clone(t.Eff), get(88), put(0))[:len(t.Eff)]
	t.Type, t.Res = roomyType(t.Type), roomyType(t.Res)
	return t
}

func roomyType(t api.RType) api.RType {
	kids := make([]api.RType, 0, len(t.Kids)+2)
	for _, k := range t.Kids {
		kids = append(kids, roomyType(k))
	}
	t.Kids = append(kids, refType(88), api.RType{Rho: 99})[:len(t.Kids)]
	t.Eff = append(slices.Clone(t.Eff), get(88), put(0))[:len(t.Eff)]
	return t
}

// all is a term with all that stands behind its lists' ends.
func all(t api.ATerm) string {
	var b strings.Builder
	writeAll(&b, t)
	return b.String()
}

func writeAll(b *strings.Builder, t api.ATerm) {
	fmt.Fprint(b, "[", t.Head, t.Rho, len(t.Rhos), t.Rhos[:cap(t.Rhos)], len(t.Eff), t.Eff[:cap(t.Eff)], len(t.Kids))
	writeAllType(b, t.Type)
	writeAllType(b, t.Res)
	for _, k := range t.Kids[:cap(t.Kids)] {
		writeAll(b, k)
	}
	b.WriteString("]")
}

func writeAllType(b *strings.Builder, t api.RType) {
	fmt.Fprint(b, "<", t.Kind, t.Rho, len(t.Eff), t.Eff[:cap(t.Eff)], len(t.Kids))
	for _, k := range t.Kids[:cap(t.Kids)] {
		writeAllType(b, k)
	}
	b.WriteString(">")
}

// samples are terms with each kind, and some that may not be.
func samples() []api.ATerm {
	l := []api.ATerm{big(), {}, of(4), in(1, 17, of(10, num(1), name("in"))), of(8, big(), big())}
	for _, r := range kindRows {
		l = append(l, full(r, 3, numbered(r.kids())...), full(r, 2, slices.Repeat([]api.ATerm{big()}, r.kids())...))
	}
	return l
}

func TestArgumentsStay(t *testing.T) {
	for _, tight := range samples() {
		x := roomy(tight)
		words := append([]string{"x", "(", "3"}, "room", "@")
		some, before, kept := words[:3], all(x), slices.Clone(words)
		want, e := display.Term(tight)
		n := display.Count(tight, "x", "(", "3")
		for range 2 { // what was asked ahead counts for nothing
			told(t, x)
			if s, f := display.Term(x); s != want || f != e {
				t.Fatalf("P0.4: what stands behind lists' ends counts: %.300s", exactly(tight))
			}
			if display.Count(x, some...) != n {
				t.Fatalf("P0.4: what stands behind lists' ends counts: %.300s", exactly(tight))
			}
			if all(x) != before || !slices.Equal(words, kept) {
				t.Fatalf("P0.4: what was handed in is changed: %.300s", exactly(tight))
			}
			refused(t, api.ATerm{})
		}
	}
}

func TestNilAndEmptyLists(t *testing.T) {
	for _, r := range kindRows {
		none := full(r, 3, numbered(r.kids())...)
		none.Rhos, none.Eff, none.Type.Eff, none.Res.Eff = nil, nil, nil, nil
		if r.kids() == 0 {
			none.Kids = nil
		}
		want := shows(t, none)
		for set := range 1 << 7 {
			empty := none
			for i, change := range []func(x *api.ATerm){
				func(x *api.ATerm) { x.Kids = append([]api.ATerm{}, x.Kids...) }, func(x *api.ATerm) { x.Rhos = []int{} }, func(x *api.ATerm) { x.Eff = []api.Atom{} },
				func(x *api.ATerm) { x.Type.Eff = []api.Atom{} }, func(x *api.ATerm) { x.Type.Kids = append([]api.RType{}, x.Type.Kids...) },
				func(x *api.ATerm) { x.Res.Eff = []api.Atom{} }, func(x *api.ATerm) { x.Res.Kids = append([]api.RType{}, x.Res.Kids...) },
			} {
				if set>>i&1 == 1 {
					change(&empty)
				}
			}
			if got := shows(t, empty); got != want {
				t.Errorf("P0.5: with empty lists: %q, want %q", got, want)
			}
		}
	}
	for _, l := range [][]string{nil, {}} {
		if n := display.Count(big(), l...); n != 0 {
			t.Error("P0.5: Count of no words", n)
		}
	}
}

// TestSharedLists has a term several of whose lists are the same memory.
func TestSharedLists(t *testing.T) {
	kids, rhos, e := []api.ATerm{num(1), name("x")}, []int{1, 2}, []api.Atom{get(1), put(2)}
	y := fnType(3, intType(), intType(), e...)
	f := rec(2, rhos, "f", "x", y, y, kids[0], kids[1], e...)
	f.Kids = kids
	x := of(14, f, of(10, kids...), inst(1, "f", rhos, e...))
	want := "( if ( letrec f [ 1 2 ] x : ( int -> int ! get 1 , put 2 @ 3 ) -> ( int -> int ! get 1 , put 2 @ 3 ) ! get 1 , put 2 = 1 @ 2 in x ) then ( 1 x ) else ( f [ 1 2 ] ! get 1 , put 2 @ 1 ) )"
	if s := shows(t, x); s != want {
		t.Errorf("P14.1: of shared lists: %q", s)
	}
	if !slices.Equal(rhos, []int{1, 2}) || !slices.Equal(e, []api.Atom{get(1), put(2)}) {
		t.Error("P0.4: what was handed in is changed")
	}
}

// TestCallsStandAlone asks for what was answered ahead once more, behind other calls.
func TestCallsStandAlone(t *testing.T) {
	l := samples()
	var texts []string
	for _, x := range l {
		s, _ := display.Term(x)
		texts = append(texts, s)
	}
	for i := len(l) - 1; i >= 0; i-- {
		if s, _ := display.Term(l[i]); s != texts[i] {
			t.Errorf("P0.6: the same term has another text: %.300q, %.300q", s, texts[i])
		}
	}
}
