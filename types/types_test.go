package types_test

import (
	"fmt"
	"math"
	"math/rand"
	"reflect"
	"slices"
	"strings"
	"testing"

	"enclave/api"
	"enclave/types"
)

// of is a type of a kind and kids.
func of(kind uint8, kids ...api.Type) api.Type { return api.Type{Kind: kind, Kids: kids} }

func num() api.Type { return of(1) }

func pair(a, b api.Type) api.Type { return of(2, a, b) }

func ref(a api.Type) api.Type { return of(3, a) }

func fn(a, b api.Type) api.Type { return of(4, a, b) }

func variable(n int) api.Type { return api.Type{Kind: 5, Var: n} }

// clone is a type that shares no memory with another one.
func clone(t api.Type) api.Type {
	kids := t.Kids
	t.Kids = nil
	for _, k := range kids {
		t.Kids = append(t.Kids, clone(k))
	}
	return t
}

// big is a type that may be and has each kind, in each place of others.
func big() api.Type {
	a := fn(pair(num(), ref(variable(0))), ref(ref(fn(num(), variable(12)))))
	b := pair(pair(fn(num(), num()), num()), fn(fn(variable(3), num()), fn(ref(num()), pair(num(), num()))))
	return fn(fn(a, b), pair(ref(pair(variable(math.MaxInt), num())), ref(variable(7))))
}

// node is the node of t that has left others ahead of it; nil, if there are too few.
func node(t *api.Type, left int) *api.Type {
	for row := []*api.Type{t}; len(row) > 0; left-- {
		t, row = row[0], row[1:]
		if left == 0 {
			return t
		}
		for i := range t.Kids {
			row = slices.Insert(row, i, &t.Kids[i])
		}
	}
	return nil
}

// holds holds all that is told of a type against the chapter. It stops at the first fault: where many types are gone through, more of them tell nothing new.
func holds(t *testing.T, x api.Type) {
	t.Helper()
	may := mayOf(x)
	if got := types.May(x); got != may {
		t.Fatalf("P8.1: May of %.300s = %t", whole(x), got)
	}
	if got := types.Closed(x); got != closedOf(x) {
		t.Fatalf("P8.1: Closed of %.300s = %t", whole(x), got)
	}
	if got, want := types.Size(x), len(nodes(x)); got != want {
		t.Fatalf("P8.1: Size of %.300s = %d, want %d", whole(x), got, want)
	}
	if got := types.Arrows(x); got != arrowsOf(x) {
		t.Fatalf("P8.1: Arrows of %.300s = %t", whole(x), got)
	}
	if !types.Same(x, x) || !types.Same(x, clone(x)) || !types.Same(clone(x), x) {
		t.Fatalf("P8.1: not the same as itself: %.300s", whole(x))
	}
	s, e := types.Text(x)
	if !may {
		if s != "" || e != api.ErrArg {
			t.Fatalf("P8.1: Text of %.300s, which may not be, = %.300q %d", whole(x), s, e)
		}
		return
	}
	if want := textOf(x); s != want || e != api.OK {
		t.Fatalf("P8.1: Text of %.300s = %.300q %d, want %.300q", whole(x), s, e, want)
	}
	if back, ok := readText(s); !ok || whole(back) != whole(x) || !types.Same(back, x) {
		t.Fatalf("P8.2: %.300q can't be read as the one type that has it: %.300s", s, whole(x))
	}
}

// TestChapter has what the chapter tells of kinds, told once more by hand.
func TestChapter(t *testing.T) {
	want := []kindRow{
		{"TyInt", 1, 0, false, []string{"int"}, []bool{}},
		{"TyPair", 2, 2, false, []string{"(", "A", "*", "B", ")"}, []bool{false, false}},
		{"TyRef", 3, 1, false, []string{"ref", "A"}, []bool{true}},
		{"TyFn", 4, 2, false, []string{"A", "->", "B"}, []bool{true, false}},
		{"TyVar", 5, 0, true, []string{"?"}, []bool{}},
	}
	if !reflect.DeepEqual(kindRows, want) {
		t.Error("the chapter is read as", kindRows)
	}
	for i, k := range []uint8{api.TyInt, api.TyPair, api.TyRef, api.TyFn, api.TyVar} {
		if int(k) != i+1 {
			t.Error("P8.1, T6: the kind", i+1, "has the number", k)
		}
	}
}

func TestTexts(t *testing.T) {
	i, v := num(), variable(0)
	for _, x := range []struct {
		t    api.Type
		want string
	}{
		{i, "int"}, {v, "?0"}, {variable(1), "?1"}, {variable(10), "?10"}, {variable(math.MaxInt32 + 1), "?2147483648"}, {variable(math.MaxInt), "?9223372036854775807"},
		{pair(i, v), "( int * ?0 )"}, {ref(i), "ref int"}, {fn(i, v), "int -> ?0"},
		{fn(i, i), "int -> int"}, {fn(fn(i, i), i), "( int -> int ) -> int"}, {fn(i, fn(i, i)), "int -> int -> int"}, {fn(fn(i, i), fn(i, i)), "( int -> int ) -> int -> int"},
		{fn(fn(fn(i, i), i), i), "( ( int -> int ) -> int ) -> int"}, {fn(fn(i, fn(i, i)), i), "( int -> int -> int ) -> int"},
		{ref(fn(i, i)), "ref ( int -> int )"}, {fn(ref(i), i), "ref int -> int"}, {fn(i, ref(i)), "int -> ref int"}, {ref(ref(i)), "ref ref int"}, {ref(ref(fn(i, i))), "ref ref ( int -> int )"},
		{ref(pair(i, i)), "ref ( int * int )"}, {pair(ref(i), ref(v)), "( ref int * ref ?0 )"},
		{pair(fn(i, i), i), "( int -> int * int )"}, {pair(i, fn(i, i)), "( int * int -> int )"}, {fn(pair(i, i), i), "( int * int ) -> int"}, {fn(i, pair(i, i)), "int -> ( int * int )"},
		{pair(pair(i, i), i), "( ( int * int ) * int )"}, {pair(i, pair(i, i)), "( int * ( int * int ) )"},
		{pair(fn(fn(i, i), i), fn(i, fn(i, i))), "( ( int -> int ) -> int * int -> int -> int )"},
		{ref(fn(fn(i, v), ref(fn(v, i)))), "ref ( ( int -> ?0 ) -> ref ( ?0 -> int ) )"},
	} {
		if s, e := types.Text(x.t); s != x.want || e != api.OK {
			t.Errorf("P8.1: Text = %q %d, want %q", s, e, x.want)
		}
		holds(t, x.t)
	}
	holds(t, big())
}

// TestEachKindNumberAndKids has all kinds, those that aren't there too, with each number of kids.
func TestEachKindNumberAndKids(t *testing.T) {
	for kind := range 256 {
		for kids := range 8 {
			for _, n := range []int{0, 1, 2, 5, 255, 256, math.MaxInt, -1, -2, -256, math.MinInt + 1, math.MinInt} {
				x := api.Type{Kind: uint8(kind), Var: n, Kids: slices.Repeat([]api.Type{num()}, kids)}
				holds(t, x)
				holds(t, ref(x))
				holds(t, pair(num(), x))
				holds(t, fn(x, variable(2)))
			}
		}
	}
	for _, x := range []api.Type{variable(0), variable(1), variable(math.MaxInt)} {
		if !types.May(x) || types.Closed(x) || !types.May(pair(num(), x)) || types.Closed(pair(num(), x)) {
			t.Error("P8.1: of the variable", x.Var)
		}
	}
	if types.May(api.Type{}) || types.Closed(api.Type{}) || types.Size(api.Type{}) != 1 || types.Arrows(api.Type{}) || !types.Same(api.Type{}, api.Type{}) {
		t.Error("P8.1: of the zero type")
	}
}

// smallTypes are all types of up to so many nodes, of such leaves.
func smallTypes(most int, leaves ...api.Type) []api.Type {
	sizes := [][]api.Type{nil, leaves}
	for n := 2; n <= most; n++ {
		var l []api.Type
		for _, a := range sizes[n-1] {
			l = append(l, ref(a))
		}
		for first := 1; first < n-1; first++ {
			for _, a := range sizes[first] {
				for _, b := range sizes[n-1-first] {
					l = append(l, pair(a, b), fn(a, b))
				}
			}
		}
		sizes = append(sizes, l)
	}
	return slices.Concat(sizes...)
}

func TestAllSmallTypes(t *testing.T) {
	for _, x := range smallTypes(7, num(), variable(0), variable(10)) {
		holds(t, x)
	}
}

// TestNoTwoClosedHaveOneText has P8.2 by its words.
func TestNoTwoClosedHaveOneText(t *testing.T) {
	met := map[string]api.Type{}
	for _, x := range smallTypes(11, num()) {
		s, e := types.Text(x)
		if e != api.OK || !types.Closed(x) {
			t.Fatal("P8.1: not closed:", whole(x))
		}
		if other, is := met[s]; is {
			t.Fatalf("P8.2: %q is the text of %s and of %s", s, whole(x), whole(other))
		}
		met[s] = x
	}
	for _, x := range smallTypes(9, num()) {
		s, _ := types.Text(x)
		if !types.Same(met[s], clone(x)) {
			t.Fatalf("P8.2: not the same as what has its text: %s", whole(x))
		}
	}
}

// grown is a type of about so many nodes.
func grown(r *rand.Rand, left int) api.Type {
	if left <= 1 {
		if r.Intn(3) == 0 {
			return variable(r.Intn(200))
		}
		return num()
	}
	first := r.Intn(left)
	switch r.Intn(5) {
	case 0:
		return ref(grown(r, left-1))
	case 1, 2:
		return pair(grown(r, first), grown(r, left-1-first))
	}
	return fn(grown(r, first), grown(r, left-1-first))
}

func TestGrownTypes(t *testing.T) {
	r := rand.New(rand.NewSource(8))
	for n := range 800 {
		x := grown(r, 1+n%300)
		holds(t, x)
		at := r.Intn(types.Size(x))
		spoil := spoils()[r.Intn(len(spoils()))]
		spoil(node(&x, at))
		holds(t, x)
	}
}

// spoils are what may be done to any node, so that it may not be.
func spoils() []func(x *api.Type) {
	return []func(x *api.Type){
		func(x *api.Type) { x.Kind = 0 },
		func(x *api.Type) { x.Kind = 6 },
		func(x *api.Type) { x.Kind = 255 },
		func(x *api.Type) { x.Var = -1 },
		func(x *api.Type) { x.Var = math.MinInt },
		func(x *api.Type) { x.Kids = append(slices.Clone(x.Kids), num()) },
		func(x *api.Type) { x.Kids = append(slices.Clone(x.Kids), num(), num(), num()) },
		func(x *api.Type) { x.Kids = append(slices.Clone(x.Kids), api.Type{}) },
		func(x *api.Type) { *x = api.Type{} },
		func(x *api.Type) { *x = of(4) },
		func(x *api.Type) { *x = of(3, num(), num()) },
		func(x *api.Type) { *x = api.Type{Kind: 1, Var: 1} },
	}
}

func TestWhatMayNotBeFarWithin(t *testing.T) {
	for at := range types.Size(big()) {
		for i, spoil := range spoils() {
			x := clone(big())
			spoil(node(&x, at))
			if types.May(x) || types.Closed(x) || types.May(pair(num(), x)) || types.Same(x, big()) || types.Same(big(), x) {
				t.Errorf("P8.1: it may be, or is the same, with the node %d spoilt by %d", at, i)
			}
			holds(t, x)
		}
		x := clone(big())
		n := node(&x, at)
		if n.Kind != 5 {
			n.Var = 1
			holds(t, x)
		}
		if len(n.Kids) > 0 {
			n.Kids = n.Kids[1:]
			holds(t, x)
		}
		x = clone(big())
		*node(&x, at) = variable(4)
		if !types.May(x) || types.Closed(x) {
			t.Errorf("P8.1: with a variable for the node %d", at)
		}
		holds(t, x)
	}
	for _, x := range []api.Type{of(3, of(2, num())), of(2, num(), of(1, variable(0)))} {
		if s, e := types.Text(x); types.May(x) || types.Closed(x) || s != "" || e != api.ErrArg {
			t.Error("P8.1: it may be:", whole(x))
		}
	}
}

// steps are how deep each of n nodes may stand, told in order: the first one at 1, each at most one deeper than the one ahead of it.
func steps(n int) [][]int {
	if n == 0 {
		return [][]int{nil}
	}
	var all [][]int
	for _, s := range steps(n - 1) {
		last := 0
		if len(s) > 0 {
			last = s[len(s)-1]
		}
		for d := 1; d <= last+1; d++ {
			all = append(all, append(slices.Clone(s), d))
		}
	}
	return all
}

// forest has the types whose nodes are of these kinds, and stand so deep.
func forest(depths []int, kinds []uint8) []api.Type {
	var l []api.Type
	for i := 0; i < len(depths); {
		end := i + 1
		for end < len(depths) && depths[end] > depths[i] {
			end++
		}
		l = append(l, of(kinds[i], forest(depths[i+1:end], kinds[i+1:end])...))
		i = end
	}
	return l
}

// TestSizeAndArrowsOfAllSmallForests has types of whatever shape, with one TyFn at each place, and none.
func TestSizeAndArrowsOfAllSmallForests(t *testing.T) {
	for n := range 8 {
		for fnAt := range n + 1 {
			kinds := []uint8{1, 0, 5, 3, 255, 2, 6, 1}
			kinds[fnAt] = 4
			for _, s := range steps(n) {
				l := forest(s, kinds)
				if got := types.Size(l...); got != n {
					t.Fatalf("P8.1: Size of %v = %d, want %d", s, got, n)
				}
				if got, want := types.Arrows(l...), fnAt < n; got != want {
					t.Fatalf("P8.1: Arrows of %v with %v = %t", s, kinds[:n], got)
				}
			}
		}
	}
}

func TestNoneOneAndSeveral(t *testing.T) {
	f, p := fn(num(), num()), pair(num(), variable(1))
	for _, x := range []struct {
		l      []api.Type
		size   int
		arrows bool
	}{
		{nil, 0, false}, {[]api.Type{}, 0, false}, {[]api.Type{num()}, 1, false}, {[]api.Type{f}, 3, true}, {[]api.Type{p}, 3, false},
		{[]api.Type{p, f}, 6, true}, {[]api.Type{f, p}, 6, true}, {[]api.Type{p, p, p}, 9, false}, {[]api.Type{p, num(), ref(ref(f)), p}, 12, true},
		{[]api.Type{{}, {}}, 2, false}, {[]api.Type{{}, of(4)}, 2, true}, {[]api.Type{of(9, of(0, of(4), num()), num())}, 5, true}, {[]api.Type{of(1, of(5, f))}, 5, true},
	} {
		if n, a := types.Size(x.l...), types.Arrows(x.l...); n != x.size || a != x.arrows {
			t.Errorf("P8.1: of %v: Size = %d, Arrows = %t", x.l, n, a)
		}
	}
}

// others are types that differ from t in one thing each.
func others(t api.Type) []api.Type {
	l := slices.Repeat([]api.Type{t}, 7)
	l[0].Kind ^= 1
	l[1].Kind ^= 128
	l[2].Var++
	l[3].Var = -1 - t.Var
	l[4].Var ^= 1 << 40
	l[5].Kids = append(slices.Clone(t.Kids), api.Type{})
	l[6].Kids = append([]api.Type{{}}, t.Kids...)
	if n := len(t.Kids); n > 0 {
		l = append(l, of(t.Kind, t.Kids[:n-1]...), of(t.Kind, t.Kids[1:]...), of(t.Kind), of(t.Kind, append(slices.Clone(t.Kids), t.Kids[n-1])...))
		turned := slices.Clone(t.Kids)
		slices.Reverse(turned)
		l = append(l, of(t.Kind, turned...))
	}
	return l
}

func TestSameOfEachPair(t *testing.T) {
	l := smallTypes(4, num(), variable(0), variable(3))
	l = append(l, api.Type{}, variable(-1), variable(-3), api.Type{Kind: 1, Var: 3}, api.Type{Kind: 2, Var: 3}, of(0, num()), of(255), of(4, num()), of(1, num()), of(5, num()), of(3, num(), num(), num()), big())
	l = append(l, others(big())...)
	for n := range 5 {
		for _, s := range steps(n) {
			l = append(l, of(3, forest(s, []uint8{3, 3, 3, 3})...))
		}
	}
	var wholes []string
	for _, x := range l {
		wholes = append(wholes, whole(x))
	}
	for i, a := range l {
		for j, b := range l {
			if got, want := types.Same(a, b), wholes[i] == wholes[j]; got != want {
				t.Errorf("P8.1: Same of %s and %s = %t", wholes[i], wholes[j], got)
			}
		}
	}
}

func TestSameNodeByNode(t *testing.T) {
	a := big()
	for at := range types.Size(a) {
		for i, other := range others(*node(&a, at)) {
			x := clone(a)
			*node(&x, at) = other
			// Kids that are the same, turned round, change nothing.
			if want := whole(x) == whole(a); types.Same(a, x) != want || types.Same(x, a) != want {
				t.Errorf("P8.1: Same isn't %t with the node %d as its other one %d", want, at, i)
			}
		}
	}
}

func TestNilAndEmptyKids(t *testing.T) {
	for kind := range uint8(8) {
		none, empty := api.Type{Kind: kind}, api.Type{Kind: kind, Kids: []api.Type{}}
		if types.May(none) != types.May(empty) || types.Closed(none) != types.Closed(empty) || types.Size(empty) != 1 || !types.Same(none, empty) || !types.Same(empty, none) || !types.Same(ref(none), ref(empty)) {
			t.Error("P0.5: nil kids and empty ones, of the kind", kind)
		}
		s, e := types.Text(none)
		if s2, e2 := types.Text(empty); s != s2 || e != e2 {
			t.Error("P0.5: Text with nil kids and empty ones, of the kind", kind)
		}
		for i, x := range []api.Type{types.Pair(none, empty), types.Ref(empty), types.Fn(empty, none), types.Fn(empty)} {
			want := []api.Type{pair(none, none), ref(none), fn(none, none), none}[i]
			if !types.Same(x, want) || whole(x) != whole(want) {
				t.Error("P0.5, P8.1: made of nil kids and empty ones:", whole(x))
			}
		}
	}
}

// parts are types to make others of, such as may not be among them.
func parts() []api.Type {
	return []api.Type{num(), variable(2), fn(num(), variable(0)), pair(ref(num()), num()), big(), {}, of(200, of(3), num()), {Kind: 1, Var: -4, Kids: []api.Type{num()}}}
}

// fnOf is what Fn is to answer: of A and what follows, A -> what Fn of that is.
func fnOf(l []api.Type) api.Type {
	switch len(l) {
	case 0:
		return num()
	case 1:
		return l[0]
	}
	return fn(l[0], fnOf(l[1:]))
}

// made holds what was made against what it is to be.
func made(t *testing.T, call string, got, want api.Type) {
	t.Helper()
	if whole(got) != whole(want) || !types.Same(got, want) {
		t.Errorf("P8.1: %s = %.300s, want %.300s", call, whole(got), whole(want))
	}
}

func TestMakers(t *testing.T) {
	made(t, "Int", types.Int(), api.Type{Kind: 1})
	made(t, "Fn of none", types.Fn(), api.Type{Kind: 1})
	made(t, "Fn of an empty list", types.Fn([]api.Type{}...), api.Type{Kind: 1})
	for _, a := range parts() {
		made(t, "Ref", types.Ref(a), ref(a))
		made(t, "Fn of one", types.Fn(a), a)
		for _, b := range parts() {
			made(t, "Pair", types.Pair(a, b), pair(a, b))
			made(t, "Fn of two", types.Fn(a, b), fn(a, b))
			for _, c := range parts() {
				made(t, "Fn of three", types.Fn(a, b, c), fn(a, fn(b, c)))
			}
		}
	}
	for n := range 60 {
		var l []api.Type
		for i := range n {
			l = append(l, parts()[i*i%5])
		}
		made(t, fmt.Sprint("Fn of ", n), types.Fn(l...), fnOf(l))
	}
	for _, x := range []struct {
		t    api.Type
		want string
	}{
		{types.Fn(types.Int(), types.Int()), "int -> int"},
		{types.Fn(variable(0), variable(1), variable(2)), "?0 -> ?1 -> ?2"},
		{types.Fn(variable(0), variable(1), variable(2), variable(3)), "?0 -> ?1 -> ?2 -> ?3"},
		{types.Fn(types.Fn(variable(0), variable(1)), variable(2)), "( ?0 -> ?1 ) -> ?2"},
		{types.Pair(variable(0), variable(1)), "( ?0 * ?1 )"},
		{types.Ref(variable(0)), "ref ?0"},
		{types.Ref(types.Fn(types.Pair(types.Int(), variable(4)), types.Int())), "ref ( ( int * ?4 ) -> int )"},
	} {
		if s, e := types.Text(x.t); s != x.want || e != api.OK {
			t.Errorf("P8.1: Text of what was made = %q %d, want %q", s, e, x.want)
		}
	}
	for _, x := range []api.Type{types.Ref(api.Type{}), types.Pair(num(), of(6)), types.Pair(of(6), num()), types.Fn(of(3), num()), types.Fn(num(), variable(-1)), types.Fn(api.Type{Var: 1})} {
		if types.May(x) {
			t.Error("P8.1: made of what may not be, it may be:", whole(x))
		}
	}
}

// cells are where the kids of types stand, those behind a list's end too, and whether none stands in two lists.
func cells(l ...api.Type) (map[*api.Type]bool, bool) {
	found, apart := map[*api.Type]bool{}, true
	for _, x := range nodes(l...) {
		room := x.Kids[:cap(x.Kids)]
		for i := range room {
			apart = apart && !found[&room[i]]
			found[&room[i]] = true
		}
	}
	return found, apart
}

// scribble writes into all kids of a type, those far within first.
func scribble(t api.Type) {
	for i := range t.Kids {
		scribble(t.Kids[i])
		t.Kids[i] = api.Type{Kind: 77, Var: 77}
	}
}

// makers make types of three others, which they may all have.
var makers = map[string]func(a, b, c api.Type) api.Type{
	"Int":          func(a, b, c api.Type) api.Type { return types.Int() },
	"Pair":         func(a, b, c api.Type) api.Type { return types.Pair(a, b) },
	"Ref":          func(a, b, c api.Type) api.Type { return types.Ref(a) },
	"Fn of none":   func(a, b, c api.Type) api.Type { return types.Fn() },
	"Fn of one":    func(a, b, c api.Type) api.Type { return types.Fn(a) },
	"Fn of two":    func(a, b, c api.Type) api.Type { return types.Fn(a, b) },
	"Fn of three":  func(a, b, c api.Type) api.Type { return types.Fn(a, b, c) },
	"Pair of Pair": func(a, b, c api.Type) api.Type { return types.Pair(types.Pair(a, b), c) },
	"Pair of same": func(a, b, c api.Type) api.Type { return types.Pair(a, a) },
	"Fn of same":   func(a, b, c api.Type) api.Type { return types.Fn(a, b, a, a) },
}

func TestAnswersAreNewMemory(t *testing.T) {
	for name, maker := range makers {
		a, b, c := big(), ref(pair(num(), num())), fn(pair(num(), num()), ref(num()))
		before := []api.Type{clone(a), clone(b), clone(c)}
		x, y := maker(a, b, c), maker(a, b, c)
		want := whole(x)
		theirs, _ := cells(a, b, c)
		own, apart := cells(x)
		if !apart {
			t.Errorf("P0.4: %s: two lists of an answer share memory", name)
		}
		for p := range own {
			if theirs[p] {
				t.Errorf("P0.4: %s: an answer shares memory with what was handed in", name)
			}
		}
		scribble(x)
		if !reflect.DeepEqual([]api.Type{a, b, c}, before) {
			t.Errorf("P0.4: %s: what is written into an answer changes what was handed in", name)
		}
		if whole(y) != want || whole(maker(a, b, c)) != want {
			t.Errorf("P0.4: %s: what is written into an answer changes another one", name)
		}
		scribble(a)
		scribble(b)
		scribble(c)
		if whole(y) != want {
			t.Errorf("P0.4: %s: what was handed in is kept", name)
		}
	}
}

func TestArgumentsStay(t *testing.T) {
	room := []api.Type{num(), big(), fn(num(), num()), {}, variable(1)}
	before := []api.Type{num(), clone(big()), fn(num(), num()), {}, variable(1)}
	x := pair(num(), num())
	x.Kids = room[:2] // with room behind its kids' end
	for range 2 {     // what was asked ahead counts for nothing
		if !types.May(x) || types.Closed(x) || !types.Same(x, pair(num(), big())) || types.Size(room[:1]...) != 1 || types.Arrows(room[:1]...) {
			t.Error("P0.4: what stands behind the list's end counts")
		}
		if s, _ := types.Text(x); s != textOf(pair(num(), big())) {
			t.Error("P0.4: Text of a list with room behind its end:", s)
		}
		for _, y := range []api.Type{types.Pair(x, x), types.Ref(x), types.Fn(room...), types.Fn(room[:2]...), types.Fn(room[:1]...)} {
			if types.Size(y) == 0 {
				t.Error("P8.1: a type without nodes")
			}
		}
		types.Size(room...)
		types.Arrows(room...)
		types.Same(x, room[1])
		if !reflect.DeepEqual(room, before) {
			t.Fatal("P0.4: what was handed in is changed")
		}
	}
	room[0] = api.Type{}
	if types.May(x) {
		t.Error("P0.4, P0.6: what was handed in is kept")
	}
}

// chain is n nodes of a kind, each the kid of the next at a place, around a type; their other kids are int.
func chain(kind uint8, place, n int, t api.Type) api.Type {
	r, _ := rowOf(kind)
	for range n {
		kids := slices.Repeat([]api.Type{num()}, r.kids)
		kids[place] = t
		t = of(kind, kids...)
	}
	return t
}

// TestNestedDeep has as many types nested as the document's limits allow.
func TestNestedDeep(t *testing.T) {
	const deep = 1<<16 - 1
	for _, r := range kindRows {
		for place := range r.kids {
			x := chain(r.kind, place, deep, num())
			if !types.May(x) || !types.Closed(x) || types.Size(x) != r.kids*deep+1 || types.Arrows(x) != (r.kind == 4) || !types.Same(x, chain(r.kind, place, deep, num())) {
				t.Errorf("P8.1: %s nested in its kid %d", r.name, place)
			}
			if types.Same(x, chain(r.kind, place, deep, variable(0))) || types.Same(x, chain(r.kind, place, deep-1, num())) {
				t.Errorf("P8.1: Same of %s nested in its kid %d", r.name, place)
			}
			if types.Closed(chain(r.kind, place, deep, variable(0))) || types.May(chain(r.kind, place, deep, variable(-1))) || !types.Arrows(chain(r.kind, place, deep-1, fn(num(), num()))) {
				t.Errorf("P8.1: %s nested in its kid %d around another type", r.name, place)
			}
			for _, y := range []api.Type{types.Pair(num(), x), types.Fn(num(), x)} {
				if types.Size(y) != r.kids*deep+3 || !types.Same(y.Kids[1], x) {
					t.Errorf("P8.1: made of %s nested in its kid %d", r.name, place)
				}
			}
			if types.Size(types.Ref(x)) != r.kids*deep+2 || !types.Same(types.Fn(x), x) {
				t.Errorf("P8.1: made of %s nested in its kid %d", r.name, place)
			}
		}
	}
	for _, x := range []struct {
		kind            uint8
		place           int
		ahead, kid, end string
	}{
		{2, 0, "( ", "int", " * int )"}, {2, 1, "( int * ", "int", " )"}, {3, 0, "ref ", "int", ""}, {4, 1, "int -> ", "int", ""},
		{4, 0, "( ", "int -> int", " ) -> int"},
	} {
		n := deep
		if x.place == 0 && x.kind == 4 { // the inmost one has no brackets
			n--
		}
		want := strings.Repeat(x.ahead, n) + x.kid + strings.Repeat(x.end, n)
		if s, e := types.Text(chain(x.kind, x.place, deep, num())); s != want || e != api.OK {
			t.Errorf("P8.1: Text of the kind %d nested in its kid %d", x.kind, x.place)
		}
	}
}

func TestWide(t *testing.T) {
	l := slices.Repeat([]api.Type{num()}, 1<<16)
	if types.Size(l...) != 1<<16 || types.Arrows(l...) || !types.Arrows(append(slices.Clone(l), of(4))...) {
		t.Error("P8.1: Size and Arrows of 2^16 types")
	}
	f := types.Fn(l...)
	if s, e := types.Text(f); s != strings.Repeat("int -> ", 1<<16-1)+"int" || e != api.OK || types.Size(f) != 1<<17-1 {
		t.Error("P8.1: Fn of 2^16 types")
	}
	for kind := range uint8(8) {
		x := of(kind, l...)
		if types.May(x) || types.Closed(x) || types.Size(x) != 1<<16+1 || !types.Same(x, clone(x)) || types.Same(x, of(kind, l[1:]...)) {
			t.Error("P8.1: of 2^16 kids, of the kind", kind)
		}
	}
}
