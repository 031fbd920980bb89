package rtype_test

import (
	"fmt"
	"math"
	"math/rand"
	"reflect"
	"slices"
	"strings"
	"testing"

	"enclave/api"
	"enclave/effect"
	"enclave/rtype"
	"enclave/types"
)

func get(n int) api.Atom { return api.Atom{Kind: 1, Rho: n} }

func put(n int) api.Atom { return api.Atom{Kind: 2, Rho: n} }

func exn(s string) api.Atom { return api.Atom{Kind: 3, Exn: s} }

// of is a type of a kind, a region, and kids.
func of(kind uint8, rho int, kids ...api.RType) api.RType {
	return api.RType{Kind: kind, Rho: rho, Kids: kids}
}

func num() api.RType { return of(1, 0) }

func pair(rho int, a, b api.RType) api.RType { return of(2, rho, a, b) }

func ref(rho int, a api.RType) api.RType { return of(3, rho, a) }

func fn(rho int, a, b api.RType, e ...api.Atom) api.RType {
	return api.RType{Kind: 4, Rho: rho, Eff: e, Kids: []api.RType{a, b}}
}

// big is a type that may be and has each kind, in each place of others, each region several times.
func big() api.RType {
	a := fn(3, pair(1, num(), ref(2, num())), ref(0, ref(7, fn(1, num(), num(), put(3)))), get(2), put(1), put(9), exn("E"))
	b := pair(2, pair(0, fn(4, num(), num()), num()), fn(9, fn(3, num(), num(), exn("A"), exn("B")), fn(0, ref(3, num()), pair(10, num(), num())), get(0)))
	return fn(math.MaxInt, fn(2, a, b, get(math.MaxInt), put(0)), pair(1, ref(5, pair(5, num(), num())), ref(11, num())), get(1), get(12), put(12), exn("Exn"))
}

// mixed is a type that may not be, with what could be taken for regions in all fields.
func mixed() api.RType {
	odd := []api.Atom{exn("B"), put(1), get(2), put(1), get(-1), {Kind: 3, Rho: 1, Exn: "C"}, {Kind: 1, Rho: 5, Exn: "A"}, {}, exn("A"), exn("b")}
	i := api.RType{Kind: 1, Rho: 2, Eff: odd, Kids: []api.RType{ref(1, num()), {Kind: 1, Rho: -1}}}
	v := api.RType{Kind: 5, Rho: 3, Eff: []api.Atom{put(4)}}
	z := api.RType{Rho: -1, Eff: []api.Atom{get(2), get(1)}, Kids: []api.RType{i, v, num()}}
	return fn(1, api.RType{Kind: 2, Rho: 2, Eff: odd, Kids: []api.RType{z}}, api.RType{Kind: 255, Eff: odd[1:], Kids: []api.RType{v, {Kind: 3, Rho: -7, Eff: odd[:2]}}}, odd...)
}

// node is the node of t that has left others ahead of it; nil, if there are too few.
func node(t *api.RType, left int) *api.RType {
	for row := []*api.RType{t}; len(row) > 0; left-- {
		t, row = row[0], row[1:]
		if left == 0 {
			return t
		}
		for i := range t.Kids {
			row = slices.Insert(row, i, &t.Kids[i])
		}
	}
	return nil
}

// rhoPairs are some regions in place of others.
var rhoPairs = [][2][]int{
	{nil, nil}, {{1}, {2}}, {{2}, {0}}, {{0}, {6}}, {{1, 2}, {2, 1}}, {{3, 2, 1, 0}, {5, 5, 5, 5}}, {{0, 1, 2, 3}, {1, 2, 3, 0}},
	{{1, 1}, {8, 9}}, {{3, 1, 2}, {4}}, {{2, 1, 1}, {2}}, {{1}, {-1}}, {{-1, -7}, {1, 3}}, {{math.MaxInt}, {math.MinInt}}, {{9, 12}, {math.MaxInt, 1, 2}}, {nil, {1, 2}}, {{1, 2}, nil},
}

// holds holds all that is told of a type against the chapter. It stops at the first fault: where many types are gone through, more of them tell nothing new.
func holds(t *testing.T, x api.RType) {
	t.Helper()
	may := mayOf(x)
	if got := rtype.May(x); got != may {
		t.Fatalf("P12.1: May of %.300s = %t", exactly(x), got)
	}
	if got, want := rtype.Size(x), len(nodes(x)); got != want {
		t.Fatalf("P12.1: Size of %.300s = %d, want %d", exactly(x), got, want)
	}
	if got, want := rtype.Rhos(x), rhosOf(x); !slices.Equal(got, want) {
		t.Fatalf("P12.1: Rhos of %.300s = %v, want %v", exactly(x), got, want)
	}
	if got, want := plainly(rtype.Bare(x)), plainly(bareOf(x)); got != want {
		t.Fatalf("P12.1: Bare of %.300s = %.300s, want %.300s", exactly(x), got, want)
	}
	if !rtype.Same(x, x) || !rtype.Same(x, clone(x)) || !rtype.Same(clone(x), x) {
		t.Fatalf("P12.1: not the same as itself: %.300s", exactly(x))
	}
	for _, p := range rhoPairs[:6] {
		holdSwap(t, x, p[0], p[1])
	}
	s, e := rtype.Text(x)
	if !may {
		if s != "" || e != api.ErrArg {
			t.Fatalf("P12.1: Text of %.300s, which may not be, = %.300q %d", exactly(x), s, e)
		}
		return
	}
	if want := textOf(x); s != want || e != api.OK {
		t.Fatalf("P12.1: Text of %.300s = %.300q %d, want %.300q", exactly(x), s, e, want)
	}
	if !types.Closed(rtype.Bare(x)) || types.Size(rtype.Bare(x)) != rtype.Size(x) {
		t.Fatalf("P12.1: Bare of %.300s is no closed type of as many nodes", exactly(x))
	}
}

// holdSwap holds a type with other regions against the chapter.
func holdSwap(t *testing.T, x api.RType, from, to []int) {
	t.Helper()
	got, want := rtype.Swap(x, from, to), swapOf(x, from, to)
	if exactly(got) != exactly(want) || !rtype.Same(got, want) {
		t.Fatalf("P12.1: Swap of %.300s, %v, %v = %.300s, want %.300s", exactly(x), from, to, exactly(got), exactly(want))
	}
}

// TestChapter has what the chapters tell of kinds, told once more by hand.
func TestChapter(t *testing.T) {
	want := []kindRow{
		{"TyInt", 1, 0, false, false, strings.Fields("int")},
		{"TyPair", 2, 2, true, false, strings.Fields("( A * B @ r )")},
		{"TyRef", 3, 1, true, false, strings.Fields("( ref A @ r )")},
		{"TyFn", 4, 2, true, true, strings.Fields("( A -> B ! E @ r )")},
	}
	if !reflect.DeepEqual(kindRows, want) {
		t.Error("the chapters are read as", kindRows)
	}
	for kind := range 256 {
		if without(uint8(kind)) != (kind == 1) {
			t.Error("whether no region counts of the kind", kind)
		}
	}
}

func TestExample(t *testing.T) {
	x := pair(3, num(), num())
	if s, e := rtype.Text(x); s != "( int * int @ 3 )" || e != api.OK {
		t.Errorf("P12.1: Text = %q %d", s, e)
	}
	if l := rtype.Rhos(x); !slices.Equal(l, []int{3}) {
		t.Error("P12.1: Rhos", l)
	}
}

// TestReadme has what README.md shows of this layer.
func TestReadme(t *testing.T) {
	i := api.RType{Kind: api.TyInt}
	p := api.RType{Kind: api.TyPair, Rho: 3, Kids: []api.RType{i, i}}
	f := api.RType{Kind: api.TyFn, Rho: 1, Eff: effect.Of(get(3)), Kids: []api.RType{p, i}}
	s, e := rtype.Text(f)
	if s != "( ( int * int @ 3 ) -> int ! get 3 @ 1 )" || e != api.OK {
		t.Errorf("P12.1: Text = %q %d", s, e)
	}
	if rtype.Size(f, i) != 6 || !slices.Equal(rtype.Rhos(f, p), []int{1, 3}) {
		t.Error("P12.1: Size and Rhos")
	}
	g := rtype.Swap(f, []int{3, 1}, []int{0, 3})
	if s, e = rtype.Text(g); s != "( ( int * int @ 0 ) -> int ! get 0 @ 3 )" || e != api.OK {
		t.Errorf("P12.1: Text = %q %d", s, e)
	}
	if s, e = types.Text(rtype.Bare(f)); s != "( int * int ) -> int" || e != api.OK {
		t.Errorf("P12.1: Text = %q %d", s, e)
	}
	if rtype.Same(f, g) || rtype.May(f, api.RType{Kind: api.TyVar}) {
		t.Error("P12.1: Same and May")
	}
	if s, e = rtype.Text(api.RType{}); s != "" || e != api.ErrArg {
		t.Errorf("P12.1: Text = %q %d", s, e)
	}
}

func TestTexts(t *testing.T) {
	i := num()
	for _, x := range []struct {
		t    api.RType
		want string
	}{
		{i, "int"},
		{pair(0, i, i), "( int * int @ 0 )"}, {pair(10, i, i), "( int * int @ 10 )"}, {pair(math.MaxInt, i, i), "( int * int @ 9223372036854775807 )"},
		{ref(0, i), "( ref int @ 0 )"}, {ref(math.MaxInt32+1, i), "( ref int @ 2147483648 )"}, {ref(1, ref(2, i)), "( ref ( ref int @ 2 ) @ 1 )"},
		{fn(0, i, i), "( int -> int ! none @ 0 )"}, {fn(7, i, i, get(0)), "( int -> int ! get 0 @ 7 )"}, {fn(7, i, i, get(1), get(20), put(1), exn("A"), exn("E9")), "( int -> int ! get 1 , get 20 , put 1 , exn A , exn E9 @ 7 )"},
		{fn(1, fn(2, i, i), i), "( ( int -> int ! none @ 2 ) -> int ! none @ 1 )"}, {fn(1, i, fn(2, i, i)), "( int -> ( int -> int ! none @ 2 ) ! none @ 1 )"},
		{pair(1, ref(2, i), i), "( ( ref int @ 2 ) * int @ 1 )"}, {pair(1, i, ref(2, i)), "( int * ( ref int @ 2 ) @ 1 )"},
		{pair(0, fn(1, i, i, exn("E")), pair(2, i, i)), "( ( int -> int ! exn E @ 1 ) * ( int * int @ 2 ) @ 0 )"},
		{ref(3, fn(1, pair(2, i, i), ref(0, i), get(2), put(0))), "( ref ( ( int * int @ 2 ) -> ( ref int @ 0 ) ! get 2 , put 0 @ 1 ) @ 3 )"},
	} {
		if s, e := rtype.Text(x.t); s != x.want || e != api.OK {
			t.Errorf("P12.1: Text = %q %d, want %q", s, e, x.want)
		}
		holds(t, x.t)
	}
	holds(t, big())
	holds(t, mixed())
	if !rtype.May(big()) || rtype.May(mixed()) {
		t.Error("P12.1: May of big ones")
	}
}

// effects are some lists that are effects, and noEffects such as aren't.
func effects() [][]api.Atom {
	return [][]api.Atom{nil, {}, {get(0)}, {put(4)}, {exn("E")}, {get(0), get(3), put(0), exn("A"), exn("Aa")}, {get(math.MaxInt)}}
}

func noEffects() [][]api.Atom {
	return [][]api.Atom{{{}}, {get(-1)}, {put(1), get(1)}, {get(1), get(1)}, {exn("e")}, {{Kind: 3, Rho: 1, Exn: "E"}}, {{Kind: 1, Rho: 1, Exn: "E"}}, {{Kind: 9}}, {get(1), put(2), exn("B"), exn("A")}, {get(0), {Kind: 4}}, {put(math.MinInt)}}
}

// TestEachKindFieldAndKids has all kinds, those that aren't there too, with each number of kids.
func TestEachKindFieldAndKids(t *testing.T) {
	for kind := range 256 {
		rhos, effs := []int{0, 1, 2, 255, 256, math.MaxInt, -1, -2, -256, math.MinInt}, append(effects(), noEffects()...)
		if kind > 6 && kind < 255 { // they are all alike
			rhos, effs = []int{0, 2, -1}, [][]api.Atom{nil, {get(0)}, {put(1), get(-1)}}
		}
		for kids := range 5 {
			for _, rho := range rhos {
				for _, e := range effs {
					x := api.RType{Kind: uint8(kind), Rho: rho, Eff: e, Kids: slices.Repeat([]api.RType{num()}, kids)}
					holds(t, x)
					holds(t, pair(1, ref(1, num()), x))
					holds(t, fn(2, x, num(), get(2)))
				}
			}
		}
	}
}

// TestZero has the zero type.
func TestZero(t *testing.T) {
	var z api.RType
	if rtype.May(z) || rtype.Size(z) != 1 || !rtype.Same(z, z) || !slices.Equal(rtype.Rhos(z), []int{0}) || !reflect.DeepEqual(rtype.Bare(z), api.Type{}) || !rtype.Same(rtype.Swap(z, []int{0}, []int{4}), api.RType{Rho: 4}) {
		t.Error("P12.1: of the zero type")
	}
}

// smallTypes are all types of up to so many nodes, with such regions and effects.
func smallTypes(most int, rhos []int, effs ...[]api.Atom) []api.RType {
	sizes := [][]api.RType{nil, {num()}}
	for n := 2; n <= most; n++ {
		var l []api.RType
		for _, r := range rhos {
			for _, a := range sizes[n-1] {
				l = append(l, ref(r, a))
			}
			for first := 1; first < n-1; first++ {
				for _, a := range sizes[first] {
					for _, b := range sizes[n-1-first] {
						l = append(l, pair(r, a, b))
						for _, e := range effs {
							l = append(l, fn(r, a, b, e...))
						}
					}
				}
			}
		}
		sizes = append(sizes, l)
	}
	return slices.Concat(sizes...)
}

func TestAllSmallTypes(t *testing.T) {
	met := map[string]string{}
	for _, x := range smallTypes(6, []int{0, 1, 10}, nil, []api.Atom{get(1)}, []api.Atom{put(0), put(10), exn("E")}) {
		holds(t, x)
		s, e := rtype.Text(x)
		if e != api.OK || !rtype.May(x) {
			t.Fatal("P12.1: it may not be:", exactly(x))
		}
		if other, is := met[s]; is && other != exactly(x) {
			t.Fatalf("P12.1: %q is the text of %s and of %s", s, exactly(x), other)
		}
		met[s] = exactly(x)
	}
}

// spoils make a node one that may not be.
func spoils() []func(x *api.RType) {
	return []func(x *api.RType){
		func(x *api.RType) { x.Kind = 0 },
		func(x *api.RType) { x.Kind = 5 },
		func(x *api.RType) { *x = of(5, 0) },
		func(x *api.RType) { x.Kind += 5 },
		func(x *api.RType) { x.Kind += 128 },
		func(x *api.RType) { x.Rho = -1 },
		func(x *api.RType) { x.Rho = math.MinInt },
		func(x *api.RType) { x.Eff = append(slices.Clone(x.Eff), api.Atom{}) },
		func(x *api.RType) { x.Eff = append(slices.Clone(x.Eff), put(3), get(2)) },
		func(x *api.RType) { x.Kids = append(slices.Clone(x.Kids), num()) },
		func(x *api.RType) { *x = api.RType{} },
		func(x *api.RType) { *x = of(4, 0) },
		func(x *api.RType) { *x = of(2, 0, num()) },
		func(x *api.RType) { *x = of(3, 1, num(), num()) },
		func(x *api.RType) { *x = of(1, 1) },
		func(x *api.RType) { *x = api.RType{Kind: 1, Eff: []api.Atom{get(0)}} },
		func(x *api.RType) { *x = api.RType{Kind: 2, Eff: []api.Atom{get(0)}, Kids: []api.RType{num(), num()}} },
		func(x *api.RType) { *x = api.RType{Kind: 3, Eff: []api.Atom{exn("A")}, Kids: []api.RType{num()}} },
	}
}

func TestWhatMayNotBeFarWithin(t *testing.T) {
	for at := range rtype.Size(big()) {
		for i, spoil := range spoils() {
			x := clone(big())
			spoil(node(&x, at))
			if rtype.May(x) || rtype.May(num(), x) || rtype.May(x, num()) {
				t.Errorf("P12.1: it may be with the node %d spoilt by %d", at, i)
			}
			// An atom that is none makes no other type.
			if want := whole(x) == whole(big()); rtype.Same(x, big()) != want || rtype.Same(big(), x) != want {
				t.Errorf("P12.1: Same isn't %t with the node %d spoilt by %d", want, at, i)
			}
			holds(t, x)
		}
		x := clone(big())
		if n := node(&x, at); len(n.Kids) > 0 {
			n.Kids = n.Kids[1:]
			holds(t, x)
		}
		for _, e := range append(effects(), noEffects()...) {
			x := clone(big())
			node(&x, at).Eff = e
			holds(t, x)
		}
		for _, rho := range []int{0, 1, 99, math.MaxInt} {
			x := clone(big())
			node(&x, at).Rho = rho
			holds(t, x)
		}
	}
}

// steps are how deep each of n nodes may stand, told in order: the first one at 1, each at most one deeper than the one ahead of it.
func steps(n int) [][]int {
	if n == 0 {
		return [][]int{nil}
	}
	var all [][]int
	for _, s := range steps(n - 1) {
		last := 0
		if len(s) > 0 {
			last = s[len(s)-1]
		}
		for d := 1; d <= last+1; d++ {
			all = append(all, append(slices.Clone(s), d))
		}
	}
	return all
}

// forest has the types whose nodes are these, and stand so deep.
func forest(depths []int, of []api.RType) []api.RType {
	var l []api.RType
	for i := 0; i < len(depths); {
		end := i + 1
		for end < len(depths) && depths[end] > depths[i] {
			end++
		}
		t := of[i]
		t.Kids = forest(depths[i+1:end], of[i+1:end])
		l = append(l, t)
		i = end
	}
	return l
}

// TestAllSmallForests has types of whatever shape, several side by side.
func TestAllSmallForests(t *testing.T) {
	of := []api.RType{{Kind: 2, Rho: 6}, {Kind: 1, Rho: 5, Eff: []api.Atom{get(8)}}, {Rho: 4, Eff: []api.Atom{put(7), put(-2)}}, {Kind: 3, Rho: -3}, {Kind: 255, Rho: 2}, {Kind: 4, Rho: 1, Eff: []api.Atom{get(6), exn("E")}}, {Kind: 5, Rho: 9}}
	for n := range len(of) + 1 {
		for _, s := range steps(n) {
			l := forest(s, of)
			if got := rtype.Size(l...); got != n {
				t.Fatalf("P12.1: Size of %v = %d, want %d", s, got, n)
			}
			if got, want := rtype.Rhos(l...), rhosOf(l...); !slices.Equal(got, want) {
				t.Fatalf("P12.1: Rhos of %v = %v, want %v", s, got, want)
			}
			if n > 0 && rtype.May(l...) {
				t.Fatalf("P12.1: May of %v", s)
			}
			for _, x := range l {
				holds(t, x)
			}
		}
	}
}

func TestNoneOneAndSeveral(t *testing.T) {
	if !rtype.May() || !rtype.May([]api.RType{}...) || rtype.Size() != 0 || rtype.Size([]api.RType{}...) != 0 || len(rtype.Rhos()) != 0 || len(rtype.Rhos([]api.RType{}...)) != 0 {
		t.Error("P12.1, P0.5: of no types")
	}
	f, p := fn(1, num(), ref(4, num()), get(7)), pair(4, num(), ref(0, num()))
	for _, x := range []struct {
		l    []api.RType
		may  bool
		size int
		rhos []int
	}{
		{[]api.RType{num()}, true, 1, nil}, {[]api.RType{num(), num()}, true, 2, nil}, {[]api.RType{f}, true, 4, []int{1, 4, 7}}, {[]api.RType{p}, true, 4, []int{0, 4}},
		{[]api.RType{p, f}, true, 8, []int{0, 1, 4, 7}}, {[]api.RType{f, p}, true, 8, []int{0, 1, 4, 7}}, {[]api.RType{p, p, num(), p}, true, 13, []int{0, 4}},
		{[]api.RType{f, {}, p}, false, 9, []int{0, 1, 4, 7}}, {[]api.RType{{}, {Rho: 3}}, false, 2, []int{0, 3}}, {[]api.RType{of(1, 6), f}, false, 5, []int{1, 4, 7}},
		{[]api.RType{f, of(1, 0, p)}, false, 9, []int{0, 1, 4, 7}}, {[]api.RType{p, of(5, -2)}, false, 5, []int{-2, 0, 4}},
	} {
		if may, n, l := rtype.May(x.l...), rtype.Size(x.l...), rtype.Rhos(x.l...); may != x.may || n != x.size || !slices.Equal(l, x.rhos) {
			t.Errorf("P12.1: of %v: May = %t, Size = %d, Rhos = %v", x.l, may, n, l)
		}
		if rtype.May(x.l...) != mayOf(x.l...) || !slices.Equal(rtype.Rhos(x.l...), rhosOf(x.l...)) {
			t.Errorf("P12.1: of %v by the chapter", x.l)
		}
	}
}

// TestWhichRegionsCount has each field in which a number stands.
func TestWhichRegionsCount(t *testing.T) {
	for _, x := range []struct {
		t    api.RType
		want []int
	}{
		{num(), nil},
		{of(1, 4), nil}, // a number stands in no region
		{api.RType{Kind: 1, Rho: 4, Eff: []api.Atom{get(3)}}, nil},
		{of(1, 4, ref(2, num())), []int{2}}, // but its kids' regions count
		{ref(0, num()), []int{0}},
		{fn(0, num(), num()), []int{0}},
		{fn(3, num(), num(), exn("E")), []int{3}}, // an exception's Rho is none
		{fn(3, num(), num(), get(5), get(9), put(5), put(1)), []int{1, 3, 5, 9}},
		{fn(3, ref(1, num()), ref(2, num())), []int{1, 2, 3}},
		{fn(5, num(), num(), api.Atom{Kind: 7, Rho: 1}, api.Atom{Kind: 3, Rho: 2, Exn: "E"}, get(-4), api.Atom{Kind: 1, Rho: 6, Exn: "E"}), []int{5}}, // what is no atom isn't there
		{fn(5, num(), num(), put(9), get(9), put(0)), []int{0, 5, 9}},
		{api.RType{Kind: 2, Rho: 2, Eff: []api.Atom{put(1)}}, []int{1, 2}}, // whatever its fields
		{api.RType{Kind: 9, Rho: -2, Eff: []api.Atom{get(1)}}, []int{-2, 1}},
		{of(5, math.MinInt, of(0, math.MaxInt), of(2, -1)), []int{math.MinInt, -1, math.MaxInt}},
	} {
		if got := rtype.Rhos(x.t); !slices.Equal(got, x.want) {
			t.Errorf("P12.1: Rhos of %s = %v, want %v", exactly(x.t), got, x.want)
		}
		holds(t, x.t)
	}
}

// others are types that differ from t in one thing each.
func others(t api.RType) []api.RType {
	l := slices.Repeat([]api.RType{t}, 9)
	l[0].Kind ^= 1
	l[1].Kind ^= 128
	l[2].Rho++
	l[3].Rho = -1 - t.Rho
	l[4].Rho ^= 1 << 40
	l[5].Eff = append(slices.Clone(t.Eff), get(77))
	l[6].Eff = append(slices.Clone(t.Eff), exn("Other"))
	l[7].Kids = append(slices.Clone(t.Kids), api.RType{})
	l[8].Kids = append([]api.RType{{}}, t.Kids...)
	if n := len(t.Eff); n > 0 {
		l = append(l, fn(t.Rho, num(), num(), t.Eff[1:]...), fn(t.Rho, num(), num(), t.Eff[:n-1]...))
		l[9].Kids, l[10].Kids = t.Kids, t.Kids
	}
	if n := len(t.Kids); n > 0 {
		for _, kids := range [][]api.RType{t.Kids[:n-1], t.Kids[1:], nil, append(slices.Clone(t.Kids), t.Kids[n-1])} {
			x := t
			x.Kids = kids
			l = append(l, x)
		}
		turned := t
		turned.Kids = slices.Clone(t.Kids)
		slices.Reverse(turned.Kids)
		l = append(l, turned)
	}
	return l
}

func TestSameOfEachPair(t *testing.T) {
	l := smallTypes(4, []int{0, 2}, nil, []api.Atom{get(2)}, []api.Atom{put(2)}, []api.Atom{exn("E")})
	l = append(l, api.RType{}, of(5, 0), of(1, 1), of(1, -1), of(0, 0, num()), of(255, 0), of(4, 0), of(4, 0, num()), of(1, 0, num()), of(3, 0, num(), num()), ref(-2, num()), big(), mixed())
	for _, e := range append(effects(), noEffects()...) {
		l = append(l, api.RType{Kind: 1, Eff: e}, api.RType{Kind: 6, Eff: e}, fn(2, num(), num(), e...), ref(1, fn(0, num(), num(), e...)))
	}
	l = append(l, others(big())...)
	for n := range 5 {
		for _, s := range steps(n) {
			l = append(l, of(3, 1, forest(s, []api.RType{of(3, 0), of(3, 0), of(3, 0), of(3, 0)})...))
		}
	}
	var wholes []string
	for _, x := range l {
		wholes = append(wholes, whole(x))
	}
	for i, a := range l {
		for j, b := range l {
			if got, want := rtype.Same(a, b), wholes[i] == wholes[j]; got != want {
				t.Errorf("P12.1: Same of %s and %s = %t", exactly(a), exactly(b), got)
			}
		}
	}
}

func TestSameNodeByNode(t *testing.T) {
	for _, a := range []api.RType{big(), mixed()} {
		for at := range rtype.Size(a) {
			for i, other := range others(*node(&a, at)) {
				x := clone(a)
				*node(&x, at) = other
				// Kids that are the same, turned round, change nothing, nor does what is no atom.
				if want := whole(x) == whole(a); rtype.Same(a, x) != want || rtype.Same(x, a) != want {
					t.Errorf("P12.1: Same isn't %t with the node %d as its other one %d", want, at, i)
				}
			}
		}
	}
}

// TestSameOfEffects has atoms in another order, and several times, and such as are none.
func TestSameOfEffects(t *testing.T) {
	a := fn(1, num(), num(), get(1), put(2), exn("E"))
	for _, x := range []struct {
		e    []api.Atom
		want bool
	}{
		{[]api.Atom{get(1), put(2), exn("E")}, true}, {[]api.Atom{exn("E"), put(2), get(1)}, true}, {[]api.Atom{put(2), get(1), put(2), exn("E"), get(1)}, true},
		{[]api.Atom{{}, get(1), get(-1), put(2), exn("E"), exn("e")}, true},
		{[]api.Atom{get(1), put(2)}, false}, {[]api.Atom{get(1), put(2), exn("E"), exn("F")}, false}, {[]api.Atom{get(2), put(1), exn("E")}, false}, {nil, false},
	} {
		for _, kind := range []uint8{4, 1, 2, 9} { // of whatever Kind
			a, b := clone(a), clone(a)
			a.Kind, b.Kind, b.Eff = kind, kind, x.e
			if rtype.Same(a, b) != x.want || rtype.Same(b, a) != x.want || rtype.Same(ref(0, a), ref(0, b)) != x.want {
				t.Errorf("P12.1: Same with the effect %v isn't %t, of the kind %d", x.e, x.want, kind)
			}
		}
	}
}

func TestNilAndEmpty(t *testing.T) {
	for kind := range uint8(8) {
		none, empty := api.RType{Kind: kind}, api.RType{Kind: kind, Eff: []api.Atom{}, Kids: []api.RType{}}
		if rtype.May(none) != rtype.May(empty) || rtype.Size(empty) != 1 || !rtype.Same(none, empty) || !rtype.Same(empty, none) || !rtype.Same(ref(1, none), ref(1, empty)) || !slices.Equal(rtype.Rhos(none), rtype.Rhos(empty)) {
			t.Error("P0.5: nil lists and empty ones, of the kind", kind)
		}
		if plainly(rtype.Bare(none)) != plainly(rtype.Bare(empty)) || exactly(rtype.Swap(none, nil, nil)) != exactly(rtype.Swap(empty, []int{}, []int{})) {
			t.Error("P0.5: Bare and Swap of nil lists and empty ones, of the kind", kind)
		}
		s, e := rtype.Text(none)
		if s2, e2 := rtype.Text(empty); s != s2 || e != e2 {
			t.Error("P0.5: Text with nil lists and empty ones, of the kind", kind)
		}
	}
	x := fn(1, num(), num(), get(1))
	for _, none := range [][]int{nil, {}} {
		for _, y := range []api.RType{rtype.Swap(x, none, []int{2}), rtype.Swap(x, []int{1}, none), rtype.Swap(x, none, none)} {
			if !rtype.Same(x, y) {
				t.Error("P0.5: Swap of no regions:", exactly(y))
			}
		}
	}
}

func TestSwap(t *testing.T) {
	x := fn(1, pair(2, num(), ref(0, num())), fn(3, num(), num(), put(1)), get(1), get(2), put(3), exn("A"))
	for _, y := range []struct {
		from, to []int
		want     string
	}{
		{nil, nil, "( ( int * ( ref int @ 0 ) @ 2 ) -> ( int -> int ! put 1 @ 3 ) ! get 1 , get 2 , put 3 , exn A @ 1 )"},
		{[]int{7, 8}, []int{1, 2}, "( ( int * ( ref int @ 0 ) @ 2 ) -> ( int -> int ! put 1 @ 3 ) ! get 1 , get 2 , put 3 , exn A @ 1 )"},
		{[]int{1}, []int{9}, "( ( int * ( ref int @ 0 ) @ 2 ) -> ( int -> int ! put 9 @ 3 ) ! get 2 , get 9 , put 3 , exn A @ 9 )"},
		{[]int{1, 2}, []int{2, 1}, "( ( int * ( ref int @ 0 ) @ 1 ) -> ( int -> int ! put 2 @ 3 ) ! get 1 , get 2 , put 3 , exn A @ 2 )"},
		{[]int{0}, []int{5}, "( ( int * ( ref int @ 5 ) @ 2 ) -> ( int -> int ! put 1 @ 3 ) ! get 1 , get 2 , put 3 , exn A @ 1 )"}, // neither a number's Rho nor an exception's
		{[]int{1, 2, 3, 0}, []int{2, 3, 0, 1}, "( ( int * ( ref int @ 1 ) @ 3 ) -> ( int -> int ! put 2 @ 0 ) ! get 2 , get 3 , put 0 , exn A @ 2 )"},
		{[]int{0, 1, 2, 3}, []int{4, 4, 4, 4}, "( ( int * ( ref int @ 4 ) @ 4 ) -> ( int -> int ! put 4 @ 4 ) ! get 4 , put 4 , exn A @ 4 )"}, // several become one
		{[]int{1, 1}, []int{8, 9}, "( ( int * ( ref int @ 0 ) @ 2 ) -> ( int -> int ! put 8 @ 3 ) ! get 2 , get 8 , put 3 , exn A @ 8 )"},     // the first one
		{[]int{3, 1, 1}, []int{3}, "( ( int * ( ref int @ 0 ) @ 2 ) -> ( int -> int ! put 1 @ 3 ) ! get 1 , get 2 , put 3 , exn A @ 1 )"},     // the first one, for which there is none
		{[]int{1}, []int{1, 2, 3}, "( ( int * ( ref int @ 0 ) @ 2 ) -> ( int -> int ! put 1 @ 3 ) ! get 1 , get 2 , put 3 , exn A @ 1 )"},
		{[]int{2}, []int{math.MaxInt}, "( ( int * ( ref int @ 0 ) @ 9223372036854775807 ) -> ( int -> int ! put 1 @ 3 ) ! get 1 , get 9223372036854775807 , put 3 , exn A @ 1 )"},
	} {
		got := rtype.Swap(x, y.from, y.to)
		if s, e := rtype.Text(got); s != y.want || e != api.OK {
			t.Errorf("P12.1: Text of Swap of %v, %v = %q %d, want %q", y.from, y.to, s, e, y.want)
		}
		holdSwap(t, x, y.from, y.to)
	}
	for _, x := range []api.RType{big(), mixed(), {}, num(), of(1, 1), of(5, 1), ref(-1, num())} {
		for _, p := range rhoPairs {
			holdSwap(t, x, p[0], p[1])
		}
	}
	if y := rtype.Swap(ref(1, num()), []int{1}, []int{-1}); rtype.May(y) || y.Rho != -1 {
		t.Error("P12.1: Swap to a number that is no region:", exactly(y))
	}
}

// TestSwapLeavesNumbers has nodes of TyInt with fields that none has, which stay as they are.
func TestSwapLeavesNumbers(t *testing.T) {
	e := []api.Atom{put(1), get(1), {}, get(1), exn("b")}
	i := api.RType{Kind: 1, Rho: 1, Eff: e, Kids: []api.RType{ref(1, api.RType{Kind: 1, Rho: 1}), {Kind: 0, Rho: 1, Eff: e}}}
	got := rtype.Swap(i, []int{1}, []int{2})
	if got.Kind != 1 || got.Rho != 1 || !slices.Equal(got.Eff, e) || len(got.Kids) != 2 {
		t.Fatal("P12.1: Swap of a number:", exactly(got))
	}
	if k := got.Kids[0]; k.Rho != 2 || k.Kids[0].Rho != 1 {
		t.Error("P12.1: Swap within a number:", exactly(k))
	}
	if k := got.Kids[1]; k.Rho != 2 || !slices.Equal(k.Eff, []api.Atom{get(2), put(2)}) {
		t.Error("P12.1: Swap of another kind's:", exactly(k))
	}
}

// lists are all lists of some of these, of up to so many items.
func lists(of []int, most int) [][]int {
	all := [][]int{nil}
	last := all
	for range most {
		var next [][]int
		for _, l := range last {
			for _, x := range of {
				next = append(next, append(slices.Clone(l), x))
			}
		}
		all = append(all, next...)
		last = next
	}
	return all
}

func TestSwapOfAllShortLists(t *testing.T) {
	all := lists([]int{0, 1, 2, -1}, 3)
	x := fn(1, pair(0, num(), of(1, 1)), ref(-1, ref(2, num())), get(0), put(1), get(2), exn("A"), get(-1))
	for _, from := range all {
		for _, to := range all {
			holdSwap(t, x, from, to)
		}
	}
}

// TestSwapThereAndBack has regions that others are put in place of, and back.
func TestSwapThereAndBack(t *testing.T) {
	for _, x := range append(smallTypes(5, []int{0, 1, 2}, nil, []api.Atom{get(1), put(2), exn("E")}), big()) {
		rhos := rtype.Rhos(x)
		var away []int
		for i := range rhos {
			away = append(away, 1000+i)
		}
		y := rtype.Swap(x, rhos, away)
		if !slices.Equal(rtype.Rhos(y), away) || !rtype.May(y) || rtype.Same(x, y) != (len(rhos) == 0) {
			t.Fatalf("P12.1: all regions of %s others: %s", exactly(x), exactly(y))
		}
		if z := rtype.Swap(y, away, rhos); !rtype.Same(x, z) || exactly(z) != exactly(x) {
			t.Fatalf("P12.1: there and back: %s becomes %s", exactly(x), exactly(z))
		}
		if plainly(rtype.Bare(x)) != plainly(rtype.Bare(y)) {
			t.Fatalf("P12.1: Bare hangs on regions: %s", exactly(x))
		}
	}
}

func TestBare(t *testing.T) {
	for _, x := range []struct {
		t    api.RType
		want string
	}{
		{num(), "int"}, {pair(4, num(), ref(2, num())), "( int * ref int )"}, {ref(0, fn(1, num(), num(), get(3))), "ref ( int -> int )"},
		{fn(1, fn(2, num(), num()), fn(3, num(), pair(9, num(), num()), exn("E")), put(1)), "( int -> int ) -> int -> ( int * int )"},
		{of(1, 7), "int"}, {api.RType{Kind: 2, Rho: -1, Eff: []api.Atom{{}}, Kids: []api.RType{num(), of(1, -1)}}, "( int * int )"}, // whatever its fields
		{of(5, 6), "?0"},
	} {
		if s, e := types.Text(rtype.Bare(x.t)); s != x.want || e != api.OK {
			t.Errorf("P12.1: Text of Bare of %s = %q %d, want %q", exactly(x.t), s, e, x.want)
		}
	}
	if got, want := plainly(rtype.Bare(mixed())), "[4 0[2 0[0 0[1 0[3 0[1 0]][1 0]][5 0][1 0]]][255 0[5 0][3 0]]]"; got != want {
		t.Errorf("P12.1: Bare = %s, want %s", got, want)
	}
}

// grown is a type of about so many nodes; now and then with what may not be, if it is to be wild.
func grown(r *rand.Rand, left int, wild bool) api.RType {
	if left <= 0 || left == 1 && r.Intn(2) == 0 {
		return num()
	}
	var e []api.Atom
	for range r.Intn(4) {
		e = append(e, []api.Atom{get(r.Intn(20)), put(r.Intn(20)), exn("E" + fmt.Sprint(r.Intn(9)))}[r.Intn(3)])
	}
	first := r.Intn(left)
	x := fn(r.Intn(20), grown(r, first, wild), grown(r, left-1-first, wild), effect.Of(e...)...)
	switch r.Intn(5) {
	case 0:
		x = ref(r.Intn(20), x.Kids[0])
	case 1, 2:
		x = pair(r.Intn(20), x.Kids[0], x.Kids[1])
	}
	if wild && r.Intn(12) == 0 {
		spoils()[r.Intn(len(spoils()))](&x)
	}
	return x
}

func TestGrown(t *testing.T) {
	r := rand.New(rand.NewSource(12))
	for n := range 4000 {
		a, b := grown(r, r.Intn(40), n%2 == 0), grown(r, r.Intn(40), n%3 == 0)
		holds(t, a)
		if rtype.May(a, b) != mayOf(a, b) || rtype.Size(a, b) != len(nodes(a, b)) || !slices.Equal(rtype.Rhos(a, b), rhosOf(a, b)) || rtype.Same(a, b) != (whole(a) == whole(b)) {
			t.Fatalf("P12.1: of %s and %s", exactly(a), exactly(b))
		}
		var from, to []int
		for range r.Intn(12) {
			from = append(from, r.Intn(22)-1)
		}
		for range r.Intn(12) {
			to = append(to, r.Intn(22)-1)
		}
		holdSwap(t, a, from, to)
	}
}

// chain is n nodes of a kind, each the kid of the next at a place, around a type; their other kids are int, and their regions rise from within.
func chain(kind uint8, place, n int, t api.RType) api.RType {
	r, _ := rowOf(kind)
	for i := range n {
		kids := slices.Repeat([]api.RType{num()}, r.kids)
		kids[place] = t
		t = of(kind, i, kids...)
	}
	return t
}

// TestNestedDeep has as many types nested as the document's limits allow.
func TestNestedDeep(t *testing.T) {
	const deep = 1<<16 - 1
	for _, r := range kindRows {
		for place := range r.kids {
			x := chain(r.kind, place, deep, num())
			if !rtype.May(x) || rtype.Size(x) != r.kids*deep+1 || !rtype.Same(x, chain(r.kind, place, deep, num())) || types.Size(rtype.Bare(x)) != r.kids*deep+1 {
				t.Errorf("P12.1: %s nested in its kid %d", r.name, place)
			}
			if rtype.Same(x, chain(r.kind, place, deep, of(1, 1))) || rtype.Same(x, chain(r.kind, place, deep-1, num())) || rtype.May(chain(r.kind, place, deep, of(1, 1))) {
				t.Errorf("P12.1: Same and May of %s nested in its kid %d", r.name, place)
			}
			if rhos := rtype.Rhos(x); len(rhos) != deep || rhos[0] != 0 || rhos[deep-1] != deep-1 {
				t.Errorf("P12.1: Rhos of %s nested in its kid %d", r.name, place)
			}
			y := rtype.Swap(x, []int{0, deep - 1}, []int{deep - 1, 0})
			if y.Rho != 0 || rtype.Same(x, y) || !rtype.Same(x, rtype.Swap(y, []int{0, deep - 1}, []int{deep - 1, 0})) {
				t.Errorf("P12.1: Swap of %s nested in its kid %d", r.name, place)
			}
			deepText(t, r, place, x)
		}
	}
}

// deepText holds the text of what is nested in a kid against what stands ahead of it and behind it.
func deepText(t *testing.T, r kindRow, place int, x api.RType) {
	t.Helper()
	kid := []string{"A", "B"}[place]
	words := " " + strings.Join(r.words, " ") + " "
	words = strings.Replace(words, map[string]string{"A": " B ", "B": " A "}[kid], " int ", 1)
	words = strings.Replace(words, " E ", " none ", 1)
	ahead, behind, _ := strings.Cut(words, " "+kid+" ")
	ahead, behind = strings.TrimPrefix(ahead, " ")+" ", " "+strings.TrimSuffix(behind, " ")
	s, e := rtype.Text(x)
	if e != api.OK {
		t.Fatalf("P12.1: Text of %s nested in its kid %d: %d", r.name, place, e)
	}
	for n := rtype.Size(x); n > 1; n -= r.kids {
		end := strings.Replace(behind, " r ", " "+fmt.Sprint(x.Rho)+" ", 1)
		if !strings.HasPrefix(s, ahead) || !strings.HasSuffix(s, end) {
			t.Fatalf("P12.1: Text of %s nested in its kid %d, at the region %d", r.name, place, x.Rho)
		}
		s, x = s[len(ahead):len(s)-len(end)], x.Kids[place]
	}
	if s != "int" {
		t.Errorf("P12.1: Text of %s nested in its kid %d, within: %.100q", r.name, place, s)
	}
}

func TestWide(t *testing.T) {
	l := slices.Repeat([]api.RType{num(), ref(3, num()), fn(1, num(), num(), get(2), exn("E"))}, 1<<14)
	if !rtype.May(l...) || rtype.Size(l...) != 6<<14 || !slices.Equal(rtype.Rhos(l...), []int{1, 2, 3}) || rtype.May(append(slices.Clone(l), of(5, 0))...) {
		t.Error("P12.1: of many types")
	}
	for kind := range uint8(8) {
		x := of(kind, 1, l...)
		if rtype.May(x) || rtype.Size(x) != 6<<14+1 || !rtype.Same(x, clone(x)) || rtype.Same(x, of(kind, 1, l[3:]...)) || len(rtype.Bare(x).Kids) != len(l) {
			t.Error("P12.1: of many kids, of the kind", kind)
		}
	}
	var e []api.Atom
	for n := range 50000 {
		e = append(e, get(2*n))
	}
	x := fn(1, num(), num(), e...)
	if s, _ := rtype.Text(x); s != textOf(x) || !rtype.May(x) || len(rtype.Rhos(x)) != 50001 || !slices.Equal(rtype.Rhos(rtype.Swap(x, []int{0, 4}, []int{2, 2})), rhosOf(swapOf(x, []int{0, 4}, []int{2, 2}))) {
		t.Error("P12.1: of a great effect")
	}
}
