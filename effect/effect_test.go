package effect_test

import (
	"fmt"
	"math"
	"math/rand"
	"reflect"
	"slices"
	"strings"
	"testing"

	"enclave/api"
	"enclave/effect"
)

func get(n int) api.Atom { return api.Atom{Kind: 1, Rho: n} }

func put(n int) api.Atom { return api.Atom{Kind: 2, Rho: n} }

func exn(s string) api.Atom { return api.Atom{Kind: 3, Exn: s} }

// rising are atoms in the order in which they stand in an effect.
func rising() []api.Atom {
	return []api.Atom{
		get(0), get(1), get(2), get(9), get(10), get(255), get(256), get(math.MaxInt32), get(math.MaxInt32 + 1), get(math.MaxInt),
		put(0), put(1), put(2), put(9), put(10), put(100), put(math.MaxInt - 1), put(math.MaxInt),
		exn("A"), exn("A0"), exn("A9"), exn("AA"), exn("AZ"), exn("Aa"), exn("Az"), exn("B"), exn("E"), exn("Exn"), exn("Y" + strings.Repeat("z", 15)), exn("Z"), exn("Z9"), exn("Za"),
	}
}

// noAtoms are such as could be taken for atoms.
func noAtoms() []api.Atom {
	return []api.Atom{
		{}, {Rho: 1}, {Exn: "A"}, {Kind: 4}, {Kind: 4, Exn: "A"}, {Kind: 255, Rho: 2},
		get(-1), get(math.MinInt), put(-1), put(-2), put(math.MinInt),
		{Kind: 1, Exn: "A"}, {Kind: 1, Rho: 1, Exn: "A"}, {Kind: 2, Exn: "A"}, {Kind: 2, Rho: 7, Exn: "a"}, {Kind: 1, Exn: " "},
		{Kind: 3, Rho: 1, Exn: "A"}, {Kind: 3, Rho: -1, Exn: "A"}, {Kind: 3, Rho: math.MaxInt, Exn: "A"},
		exn(""), exn("a"), exn("fn"), exn("0"), exn("A_"), exn("A B"), exn("A,"), exn(" A"), exn("A\n"), exn("A\x00"), exn("É"), exn("\xff"), exn("none"), exn("Z" + strings.Repeat("z", 16)),
	}
}

// same tells whether two lists are, a nil one and an empty one too.
func same[T comparable](a, b []T) bool { return slices.Equal(a, b) }

// isEffect holds an answer that is to be an effect against it.
func isEffect(t *testing.T, what string, got, want []api.Atom) {
	t.Helper()
	if !same(got, want) {
		t.Fatalf("P11.1: %s = %v, want %v", what, got, want)
	}
	if !mayOf(got) || !effect.May(got) {
		t.Fatalf("P11.1: %s = %v, which is no effect", what, got)
	}
}

// holds holds all that is told of one list against the chapter. It stops at the first fault: where many lists are gone through, more of them tell nothing new.
func holds(t *testing.T, l []api.Atom) {
	t.Helper()
	all := true
	for _, a := range l {
		all = all && atomOf(a)
	}
	if got := effect.Atom(l...); got != all {
		t.Fatalf("P11.1: Atom of %v = %t", l, got)
	}
	if got := effect.May(l); got != mayOf(l) {
		t.Fatalf("P11.1: May of %v = %t", l, got)
	}
	isEffect(t, fmt.Sprint("Of ", l), effect.Of(l...), effectOf(l))
	isEffect(t, fmt.Sprint("Union of one, ", l), effect.Union(l), effectOf(l))
	if got, want := effect.Rhos(l), rhosOf(l); !same(got, want) {
		t.Fatalf("P11.1: Rhos of %v = %v, want %v", l, got, want)
	}
	if got, want := effect.Exns(l), exnsOf(l); !same(got, want) {
		t.Fatalf("P11.1: Exns of %v = %v, want %v", l, got, want)
	}
	if got, want := effect.Text(l), textOf(l); got != want {
		t.Fatalf("P11.1: Text of %v = %q, want %q", l, got, want)
	}
	if !effect.Within(l, l) || !effect.Same(l, l) || !effect.Same(l, effect.Of(l...)) || !effect.Within(effect.Of(l...), l) {
		t.Fatalf("P11.1: not within itself: %v", l)
	}
}

// holdTwo holds all that is told of two lists against the chapter.
func holdTwo(t *testing.T, a, b []api.Atom) {
	t.Helper()
	if got, want := effect.Within(a, b), withinOf(a, b); got != want {
		t.Fatalf("P11.1: Within of %v, %v = %t", a, b, got)
	}
	if got, want := effect.Same(a, b), withinOf(a, b) && withinOf(b, a); got != want {
		t.Fatalf("P11.1: Same of %v, %v = %t", a, b, got)
	}
	isEffect(t, fmt.Sprint("Union of ", a, b), effect.Union(a, b), effectOf(a, b))
	if got, want := effect.Rhos(a, b), rhosOf(a, b); !same(got, want) {
		t.Fatalf("P11.1: Rhos of %v, %v = %v, want %v", a, b, got, want)
	}
	if got, want := effect.Exns(a, b), exnsOf(a, b); !same(got, want) {
		t.Fatalf("P11.1: Exns of %v, %v = %v, want %v", a, b, got, want)
	}
}

// lists are all lists of some of these, of up to so many items.
func lists[T any](of []T, most int) [][]T {
	all := [][]T{nil}
	last := all
	for range most {
		var next [][]T
		for _, l := range last {
			for _, x := range of {
				next = append(next, append(slices.Clone(l), x))
			}
		}
		all = append(all, next...)
		last = next
	}
	return all
}

// TestChapter has what the chapter tells of kinds, told once more by hand.
func TestChapter(t *testing.T) {
	want := []kindRow{{"AtGet", 1, true, "get"}, {"AtPut", 2, true, "put"}, {"AtExn", 3, false, "exn"}}
	if !reflect.DeepEqual(kindRows, want) {
		t.Error("the chapter is read as", kindRows)
	}
	if api.AtGet != 1 || api.AtPut != 2 || api.AtExn != 3 {
		t.Error("P11.1, T6: the kinds have other numbers")
	}
}

func TestExample(t *testing.T) {
	e := effect.Of(put(1), get(2))
	if s := effect.Text(e); s != "get 2 , put 1" {
		t.Errorf("P11.1: Text = %q", s)
	}
	if s := effect.Text([]api.Atom{put(1), get(2)}); s != "get 2 , put 1" {
		t.Errorf("P11.1: Text of what is no effect = %q", s)
	}
}

// TestReadme has what README.md shows of this layer.
func TestReadme(t *testing.T) {
	e := effect.Of(exn("E"), put(1), get(2), put(1))
	for _, x := range []struct {
		e    []api.Atom
		want string
	}{
		{e, "get 2 , put 1 , exn E"},
		{effect.Without(e, 1), "get 2 , exn E"},
		{effect.Handled(e, "E"), "get 2 , put 1"},
		{effect.Swap(e, []int{1, 2}, []int{3, 0}), "get 0 , put 3 , exn E"},
		{effect.Of(api.Atom{}), "none"},
	} {
		if got := effect.Text(x.e); got != x.want {
			t.Errorf("P11.1: Text = %q, want %q", got, x.want)
		}
	}
	if !same(effect.Rhos(e), []int{1, 2}) || !same(effect.Exns(e), []string{"E"}) || !effect.Within([]api.Atom{put(1)}, e) || effect.May([]api.Atom{put(1), get(2)}) {
		t.Error("P11.1: Rhos, Exns, Within and May")
	}
}

func TestAtoms(t *testing.T) {
	for _, a := range rising() {
		if !effect.Atom(a) || !effect.May([]api.Atom{a}) || !same(effect.Of(a), []api.Atom{a}) {
			t.Error("P11.1: no atom:", a)
		}
		holds(t, []api.Atom{a})
	}
	for _, a := range noAtoms() {
		if effect.Atom(a) || effect.May([]api.Atom{a}) || len(effect.Of(a)) != 0 || effect.Text([]api.Atom{a}) != "none" {
			t.Error("P11.1: an atom:", a)
		}
		holds(t, []api.Atom{a})
	}
}

// TestEachKind has all kinds, those that aren't there too.
func TestEachKind(t *testing.T) {
	rhos := []int{0, 1, -1, 2, 3, 255, 256, -256, math.MaxInt32, math.MinInt32, math.MaxInt, math.MinInt}
	exns := []string{"", "A", "a", "Z9", "0", "exn", " ", "A ", strings.Repeat("A", 16), strings.Repeat("A", 17)}
	for kind := range 256 {
		for _, rho := range rhos {
			for _, x := range exns {
				a := api.Atom{Kind: uint8(kind), Rho: rho, Exn: x}
				holds(t, []api.Atom{a})
				holds(t, []api.Atom{get(3), a, exn("B")})
			}
		}
	}
}

func TestExceptionsNames(t *testing.T) {
	for n := range 40 {
		for _, x := range []string{strings.Repeat("X", n), strings.Repeat("x", n), "X" + strings.Repeat("x", n), "X" + strings.Repeat("9", n), strings.Repeat("É", n)} {
			holds(t, []api.Atom{exn(x)})
		}
	}
	for _, word := range []string{"Abcdefghijklmno9", "E", "aE"} {
		for at := range len(word) {
			for c := range 256 {
				b := []byte(word)
				b[at] = byte(c)
				holds(t, []api.Atom{exn(string(b))})
			}
		}
	}
	if !effect.Atom(exn("Abcdefghijklmno9")) || effect.Atom(exn("Abcdefghijklmno90")) {
		t.Error("P11.1: names of 16 bytes and 17")
	}
}

// TestOrder has each two atoms, and all of them.
func TestOrder(t *testing.T) {
	l := rising()
	for i, a := range l {
		for j, b := range l {
			want := []api.Atom{l[min(i, j)], l[max(i, j)]}
			if i == j {
				want = want[:1]
			}
			if got := effect.Of(a, b); !same(got, want) {
				t.Errorf("P11.1: Of %v, %v = %v", a, b, got)
			}
			if got := effect.May([]api.Atom{a, b}); got != (i < j) {
				t.Errorf("P11.1: May of %v, %v = %t", a, b, got)
			}
		}
	}
	backward := slices.Clone(l)
	slices.Reverse(backward)
	for _, x := range [][]api.Atom{l, backward, slices.Concat(l, l), slices.Concat(backward, noAtoms(), l)} {
		if got := effect.Of(x...); !same(got, l) {
			t.Errorf("P11.1: Of %v = %v", x, got)
		}
		holds(t, x)
	}
	if !effect.May(l) || effect.May(backward) {
		t.Error("P11.1: May of all, rising, and falling")
	}
}

// TestMayAtEachPlace spoils an effect in one thing at a time.
func TestMayAtEachPlace(t *testing.T) {
	l := rising()
	for at := range l {
		for _, a := range noAtoms() {
			x := slices.Clone(l)
			x[at] = a
			if effect.May(x) || effect.Atom(x...) {
				t.Errorf("P11.1: %v in place of one, at %d", a, at)
			}
			holds(t, x)
			holds(t, slices.Insert(slices.Clone(l), at, a))
		}
		twice := slices.Insert(slices.Clone(l), at, l[at])
		if effect.May(twice) || !effect.Atom(twice...) || !same(effect.Of(twice...), l) {
			t.Error("P11.1: one twice, at", at)
		}
		less := slices.Delete(slices.Clone(l), at, at+1)
		if !effect.May(less) || effect.Within(l, less) || !effect.Within(less, l) || effect.Same(l, less) || effect.Same(less, l) {
			t.Error("P11.1: without one, at", at)
		}
		if at > 0 {
			x := slices.Clone(l)
			x[at-1], x[at] = x[at], x[at-1]
			if effect.May(x) || !effect.Same(x, l) {
				t.Error("P11.1: two in the other order, at", at)
			}
		}
	}
}

// few are atoms, and such as are none, that differ in little.
func few() []api.Atom {
	return []api.Atom{get(0), get(1), put(0), put(2), exn("A"), exn("B"), get(-1), {Kind: 3, Rho: 1, Exn: "A"}, {Kind: 2, Exn: "A"}, {}}
}

func TestAllShortLists(t *testing.T) {
	for _, l := range lists(few(), 4) {
		holds(t, l)
	}
}

func TestAllPairsOfShortLists(t *testing.T) {
	all := lists(few(), 2)
	for _, a := range all {
		for _, b := range all {
			holdTwo(t, a, b)
		}
	}
}

func TestNoneOneAndSeveral(t *testing.T) {
	if !effect.Atom() || !effect.Atom(nil...) || !effect.May(nil) || !effect.May([]api.Atom{}) {
		t.Error("P11.1, P0.5: of no atoms all are, and they are an effect")
	}
	if len(effect.Of()) != 0 || len(effect.Union()) != 0 || len(effect.Union(nil, nil)) != 0 || len(effect.Rhos()) != 0 || len(effect.Exns()) != 0 {
		t.Error("P11.1: what comes of none")
	}
	all := lists([]api.Atom{get(2), put(0), exn("B"), exn("A"), put(-1)}, 1)
	for _, l := range lists(all, 4) {
		isEffect(t, fmt.Sprint("Union of ", l), effect.Union(l...), effectOf(l...))
		if got, want := effect.Rhos(l...), rhosOf(l...); !same(got, want) {
			t.Fatalf("P11.1: Rhos of %v = %v, want %v", l, got, want)
		}
		if got, want := effect.Exns(l...), exnsOf(l...); !same(got, want) {
			t.Fatalf("P11.1: Exns of %v = %v, want %v", l, got, want)
		}
	}
}

// TestNilAndEmpty hands in nil lists and empty ones in place of each other.
func TestNilAndEmpty(t *testing.T) {
	empty, e := []api.Atom{}, []api.Atom{get(1), exn("A")}
	for _, none := range [][]api.Atom{nil, empty} {
		if !effect.Within(none, e) || effect.Within(e, none) || effect.Same(none, e) || !effect.Same(none, nil) || !effect.Same(empty, none) || !effect.Within(none, none) {
			t.Error("P0.5: Within and Same of none")
		}
		if effect.Text(none) != "none" || len(effect.Of(none...)) != 0 || !same(effect.Union(none, e, none), e) {
			t.Error("P0.5: Text, Of and Union of none")
		}
		if len(effect.Without(none, 1)) != 0 || len(effect.Handled(none, "A")) != 0 || len(effect.Swap(none, []int{1}, []int{2})) != 0 {
			t.Error("P0.5: Without, Handled and Swap of none")
		}
	}
	for _, none := range [][]int{nil, {}} {
		if !same(effect.Without(e, none...), e) || !same(effect.Swap(e, none, []int{2}), e) || !same(effect.Swap(e, []int{1}, none), e) || !same(effect.Swap(e, none, none), e) {
			t.Error("P0.5: no regions")
		}
	}
	if !same(effect.Handled(e), e) || !same(effect.Handled(e, []string{}...), e) {
		t.Error("P0.5: no exceptions")
	}
	if got := effect.Rhos(empty, nil, e); !same(got, []int{1}) {
		t.Error("P0.5: Rhos", got)
	}
	if got := effect.Exns(nil, e, empty); !same(got, []string{"A"}) {
		t.Error("P0.5: Exns", got)
	}
}

// TestNoAtomsAreNotThere has what is no atom on either side.
func TestNoAtomsAreNotThere(t *testing.T) {
	e := []api.Atom{get(0), get(1), put(1), exn("A")}
	for _, odd := range noAtoms() {
		only := []api.Atom{odd}
		if !effect.Within(only, nil) || !effect.Within(only, e) || effect.Within(e, only) || !effect.Same(only, nil) || !effect.Same(nil, only) || !effect.Within(append(slices.Clone(e), odd), e) || !effect.Same(append(only, e...), e) {
			t.Error("P11.1: Within and Same, with", odd)
		}
		if len(effect.Rhos(only)) != 0 || len(effect.Exns(only)) != 0 || len(effect.Union(only, only)) != 0 {
			t.Error("P11.1: Rhos, Exns and Union, with", odd)
		}
		x := slices.Insert(slices.Clone(e), 2, odd)
		isEffect(t, "Without", effect.Without(x, 5), e)
		isEffect(t, "Handled", effect.Handled(x, "B"), e)
		isEffect(t, "Swap", effect.Swap(x, []int{5}, []int{6}), e)
		isEffect(t, "Swap", effect.Swap(only, []int{odd.Rho}, []int{0}), nil)
		isEffect(t, "Swap", effect.Swap(only, []int{odd.Rho}, []int{1}), nil)
	}
}

func TestRegionsAndExceptions(t *testing.T) {
	e := effect.Of(exn("B"), put(10), get(9), exn("A"), get(2), put(2), put(0))
	if got := effect.Rhos(e); !same(got, []int{0, 2, 9, 10}) {
		t.Error("P11.1: Rhos", got)
	}
	if got := effect.Rhos([]api.Atom{exn("A")}); len(got) != 0 {
		t.Error("P11.1: an exception has no region:", got)
	}
	if got := effect.Exns(e, []api.Atom{exn("Aa"), exn("B"), exn("AA")}); !same(got, []string{"A", "AA", "Aa", "B"}) {
		t.Error("P11.1: Exns", got)
	}
	if got := effect.Exns([]api.Atom{get(1), put(0)}); len(got) != 0 {
		t.Error("P11.1: a region has no exception:", got)
	}
	if got := effect.Rhos([]api.Atom{put(math.MaxInt)}, []api.Atom{get(math.MaxInt), get(0)}); !same(got, []int{0, math.MaxInt}) {
		t.Error("P11.1: Rhos", got)
	}
}

func TestWithout(t *testing.T) {
	e := []api.Atom{get(0), get(2), put(0), put(1), exn("A"), exn("B")}
	for _, x := range []struct {
		rhos []int
		want []api.Atom
	}{
		{nil, e},
		{[]int{0}, []api.Atom{get(2), put(1), exn("A"), exn("B")}}, // an exception's Rho is none
		{[]int{2, 2}, []api.Atom{get(0), put(0), put(1), exn("A"), exn("B")}},
		{[]int{1, 7, 2, -1, 0}, []api.Atom{exn("A"), exn("B")}},
		{[]int{-1, math.MaxInt, math.MinInt, 3}, e},
	} {
		isEffect(t, fmt.Sprint("Without ", x.rhos), effect.Without(e, x.rhos...), x.want)
	}
	for _, l := range lists(few(), 3) {
		for _, rhos := range lists([]int{0, 1, 2, -1}, 2) {
			isEffect(t, fmt.Sprint("Without of ", l, rhos), effect.Without(l, rhos...), withoutOf(l, rhos))
		}
	}
	l := append(rising(), noAtoms()...)
	for _, rhos := range lists([]int{0, 1, -1, 10, 256, math.MaxInt, math.MinInt}, 3) {
		isEffect(t, fmt.Sprint("Without ", rhos), effect.Without(l, rhos...), withoutOf(l, rhos))
	}
}

func TestHandled(t *testing.T) {
	e := []api.Atom{get(0), get(2), put(0), exn("A"), exn("Aa"), exn("B")}
	for _, x := range []struct {
		exns []string
		want []api.Atom
	}{
		{nil, e},
		{[]string{""}, e}, // a region's Exn is none
		{[]string{"A"}, []api.Atom{get(0), get(2), put(0), exn("Aa"), exn("B")}},
		{[]string{"B", "B", "Aa", "C"}, []api.Atom{get(0), get(2), put(0), exn("A")}},
		{[]string{"", "B", "A", "Aa"}, []api.Atom{get(0), get(2), put(0)}},
		{[]string{"a", "AA", "A ", "b", "0", "exn"}, e},
	} {
		isEffect(t, fmt.Sprint("Handled ", x.exns), effect.Handled(e, x.exns...), x.want)
	}
	for _, l := range lists(few(), 3) {
		for _, exns := range lists([]string{"", "A", "B", "C"}, 2) {
			isEffect(t, fmt.Sprint("Handled of ", l, exns), effect.Handled(l, exns...), handledOf(l, exns))
		}
	}
	l := append(rising(), noAtoms()...)
	for _, exns := range lists([]string{"", "A", "a", "Za", "Exn", "none", "A B"}, 3) {
		isEffect(t, fmt.Sprint("Handled ", exns), effect.Handled(l, exns...), handledOf(l, exns))
	}
}

func TestSwap(t *testing.T) {
	e := []api.Atom{get(0), get(1), get(2), put(1), put(3), exn("A")}
	for _, x := range []struct {
		from, to []int
		want     []api.Atom
	}{
		{nil, nil, e},
		{[]int{1}, nil, e},
		{nil, []int{1}, e},
		{[]int{7}, []int{0}, e},
		{[]int{1}, []int{9}, []api.Atom{get(0), get(2), get(9), put(3), put(9), exn("A")}},
		{[]int{1, 2}, []int{2, 1}, []api.Atom{get(0), get(1), get(2), put(2), put(3), exn("A")}},
		{[]int{0}, []int{5}, []api.Atom{get(1), get(2), get(5), put(1), put(3), exn("A")}},                   // an exception's Rho is none
		{[]int{0, 1, 2, 3}, []int{4, 4, 4, 4}, []api.Atom{get(4), put(4), exn("A")}},                         // several become one
		{[]int{0, 1, 2, 3}, []int{1, 2, 3, 0}, []api.Atom{get(1), get(2), get(3), put(0), put(2), exn("A")}}, // all at once
		{[]int{1, 1}, []int{8, 9}, []api.Atom{get(0), get(2), get(8), put(3), put(8), exn("A")}},             // the first one
		{[]int{3, 1, 1}, []int{3}, e}, // the first one, for which there is none
		{[]int{2, 1}, []int{6}, []api.Atom{get(0), get(1), get(6), put(1), put(3), exn("A")}},
		{[]int{1}, []int{1, 2, 3}, e},
		{[]int{1}, []int{-1}, []api.Atom{get(0), get(2), put(3), exn("A")}}, // what becomes no atom isn't there
		{[]int{-1}, []int{1}, e},
		{[]int{3}, []int{math.MaxInt}, []api.Atom{get(0), get(1), get(2), put(1), put(math.MaxInt), exn("A")}},
	} {
		isEffect(t, fmt.Sprint("Swap ", x.from, x.to), effect.Swap(e, x.from, x.to), x.want)
	}
	isEffect(t, "Swap of no atoms", effect.Swap([]api.Atom{get(-1), {Kind: 3, Rho: 1, Exn: "A"}, put(-2)}, []int{-1, 1, -2}, []int{1, 0, 2}), nil)
}

func TestSwapOfAllShortLists(t *testing.T) {
	all := lists([]int{0, 1, 2, -1, 5}, 3)
	for _, e := range [][]api.Atom{{get(0), get(1), get(2), put(1), put(5), exn("A")}, {put(2), exn("B"), get(-1), get(2), put(2), exn("A"), get(0), {Kind: 3, Rho: 2, Exn: "C"}}} {
		for _, from := range all {
			for _, to := range all {
				isEffect(t, fmt.Sprint("Swap of ", e, from, to), effect.Swap(e, from, to), swapOf(e, from, to))
			}
		}
	}
	few, short := lists(few(), 2), lists([]int{0, 1, 2, -1}, 2)
	for _, e := range few {
		for _, from := range short {
			for _, to := range short {
				isEffect(t, fmt.Sprint("Swap of ", e, from, to), effect.Swap(e, from, to), swapOf(e, from, to))
			}
		}
	}
}

func TestTexts(t *testing.T) {
	for _, x := range []struct {
		l    []api.Atom
		want string
	}{
		{nil, "none"},
		{noAtoms(), "none"},
		{[]api.Atom{get(0)}, "get 0"},
		{[]api.Atom{put(10)}, "put 10"},
		{[]api.Atom{exn("E")}, "exn E"},
		{[]api.Atom{exn("E"), get(math.MaxInt), exn("E")}, "get 9223372036854775807 , exn E"},
		{[]api.Atom{put(7), put(70), put(8), get(100), get(20)}, "get 20 , get 100 , put 7 , put 8 , put 70"},
		{[]api.Atom{exn("b"), exn("B"), put(-7), put(0), exn("Ab1")}, "put 0 , exn Ab1 , exn B"},
	} {
		if got := effect.Text(x.l); got != x.want {
			t.Errorf("P11.1: Text of %v = %q, want %q", x.l, got, x.want)
		}
		holds(t, x.l)
	}
}

// grown is a list of so many, of few or many regions and exceptions, with some that are no atoms.
func grown(r *rand.Rand, n int) []api.Atom {
	many := 1 + r.Intn(2*n+2)
	var l []api.Atom
	for range n {
		switch r.Intn(8) {
		case 0:
			l = append(l, noAtoms()[r.Intn(len(noAtoms()))])
		case 1:
			l = append(l, rising()[r.Intn(len(rising()))])
		case 2, 3:
			l = append(l, exn("E"+fmt.Sprint(r.Intn(many))))
		default:
			l = append(l, api.Atom{Kind: uint8(1 + r.Intn(2)), Rho: r.Intn(many)})
		}
	}
	return l
}

func TestGrownLists(t *testing.T) {
	r := rand.New(rand.NewSource(11))
	for range 3000 {
		a, b := grown(r, r.Intn(60)), grown(r, r.Intn(60))
		holds(t, a)
		holdTwo(t, a, b)
		holdTwo(t, a, a[:len(a)/2])
		holdTwo(t, a[:len(a)/2], a)
		var from, to []int
		var exns []string
		for range r.Intn(20) {
			from = append(from, r.Intn(40)-1)
			exns = append(exns, "E"+fmt.Sprint(r.Intn(40)))
		}
		for range r.Intn(20) {
			to = append(to, r.Intn(40)-1)
		}
		isEffect(t, fmt.Sprint("Without of ", a, from), effect.Without(a, from...), withoutOf(a, from))
		isEffect(t, fmt.Sprint("Handled of ", a, exns), effect.Handled(a, exns...), handledOf(a, exns))
		isEffect(t, fmt.Sprint("Swap of ", a, from, to), effect.Swap(a, from, to), swapOf(a, from, to))
	}
}

// TestMany has lists that are long.
func TestMany(t *testing.T) {
	var l []api.Atom
	for n := range 100000 {
		l = append(l, get(n))
	}
	for n := range 100000 {
		l = append(l, put(3*n))
	}
	for n := range 50000 {
		l = append(l, exn("E"+fmt.Sprint(100000+n)))
	}
	mixed := slices.Concat(l, l[50000:200000], slices.Repeat(noAtoms(), 100))
	rand.New(rand.NewSource(1)).Shuffle(len(mixed), func(i, j int) { mixed[i], mixed[j] = mixed[j], mixed[i] })
	if !effect.May(l) || effect.May(mixed) || !same(effect.Of(mixed...), l) || !effect.Same(l, mixed) || !effect.Same(mixed, l) {
		t.Error("P11.1: Of and Same of many")
	}
	if !effect.Within(l[1:], mixed) || effect.Within(mixed, l[1:]) || effect.Within(l, l[:len(l)-1]) || effect.Same(l, l[1:]) {
		t.Error("P11.1: Within of many")
	}
	if !same(effect.Rhos(mixed), rhosOf(l)) || !same(effect.Exns(mixed), exnsOf(l)) || effect.Text(mixed) != textOf(l) {
		t.Error("P11.1: Rhos, Exns and Text of many")
	}
	one := make([][]api.Atom, len(l))
	for i := range l {
		one[len(l)-1-i] = l[i : i+1]
	}
	if !same(effect.Union(one...), l) {
		t.Error("P11.1: Union of many")
	}
	if got := effect.Without(mixed, 0, 3, 99999); !same(got, withoutOf(l, []int{0, 3, 99999})) || len(got) != len(l)-6 {
		t.Error("P11.1: Without of many:", len(got))
	}
	if got := effect.Handled(mixed, "E100000", "E149999"); !same(got, handledOf(l, []string{"E100000", "E149999"})) || len(got) != len(l)-2 {
		t.Error("P11.1: Handled of many:", len(got))
	}
	if got := effect.Swap(mixed, []int{0, 1, 99999}, []int{1, 0, 7}); !same(got, swapOf(l, []int{0, 1, 99999}, []int{1, 0, 7})) || len(got) != len(l)-1 {
		t.Error("P11.1: Swap of many:", len(got))
	}
}
