package unify_test

import (
	"math"
	"reflect"
	"runtime"
	"slices"
	"testing"

	"enclave/api"
	"enclave/unify"
)

// book is a book with so many variables.
func book(vars int) *unify.Book {
	b, _ := both(vars)
	return b
}

// sense holds a type's sense against another type.
func sense(t *testing.T, b *unify.Book, x, want api.Type) {
	t.Helper()
	if got := whole(senseOf(t, b, x)); got != whole(want) {
		t.Errorf("P9.1: the sense of %s is %s, want %s", whole(x), got, whole(want))
	}
}

// joins holds what Join answers.
func joins(t *testing.T, b *unify.Book, want bool, l ...api.Type) {
	t.Helper()
	if got := b.Join(l...); got != want {
		t.Errorf("P9.1: Join of %.300s = %t", wholes(l), got)
	}
}

// refuses holds that a type has no sense, by an error.
func refuses(t *testing.T, b *unify.Book, x api.Type, most int, want api.Errno) {
	t.Helper()
	if got, e := b.Sense(x, most); e != want || whole(got) != whole(api.Type{}) {
		t.Errorf("P9.1, P0.2: Sense with most %d: %.300s %d, want the zero type and %d", most, whole(got), e, want)
	}
}

func TestExample(t *testing.T) {
	b := unify.New()
	x, y := b.Fresh(), b.Fresh()
	joins(t, b, true, x, pair(num(), y))
	sense(t, b, variable(0), pair(num(), variable(1)))
	sense(t, b, y, variable(1))
}

func TestVariablesAreCounted(t *testing.T) {
	b := unify.New()
	for n := range 1000 {
		if b.Vars() != n {
			t.Fatal("P9.1: Vars =", b.Vars(), "behind", n, "times Fresh")
		}
		x := b.Fresh()
		if whole(x) != whole(variable(n)) {
			t.Fatal("P9.1: Fresh =", whole(x), "want", n)
		}
		if n%3 == 0 { // a variable that stands for something counts, too, and so does one that was asked for behind
			joins(t, b, true, x, ref(num()))
		}
		if n%7 == 0 {
			joins(t, b, false, num(), ref(x))
		}
	}
}

// TestNoneAndOne has Join of less than two types.
func TestNoneAndOne(t *testing.T) {
	b := book(2)
	joins(t, b, true)
	joins(t, b, true, []api.Type{}...)
	for _, x := range []api.Type{num(), variable(0), variable(1), pair(variable(1), variable(0)), fn(ref(num()), variable(1))} {
		joins(t, b, true, x)
		sense(t, b, x, x)
	}
	for _, x := range []api.Type{{}, variable(2), variable(math.MaxInt), variable(-1), variable(math.MinInt), ref(variable(2)), of(2, num()), of(6), {Kind: 1, Var: 1}} {
		joins(t, b, false, x)
		refuses(t, b, x, 100, api.ErrArg)
	}
	sense(t, b, variable(0), variable(0))
	sense(t, b, variable(1), variable(1))
}

// TestWrongOnesAmongOthers has types that may not be, or have a variable that there isn't, at each place among others that could be the same.
func TestWrongOnesAmongOthers(t *testing.T) {
	for _, bad := range []api.Type{{}, variable(3), variable(4), variable(math.MaxInt), variable(-1), ref(variable(3)), fn(num(), variable(-1)), pair(api.Type{}, num()), of(1, num()), of(4, num()), of(3), of(255), {Kind: 2, Var: 3, Kids: []api.Type{num(), num()}}} {
		for n := 1; n < 5; n++ {
			for at := range n {
				b := book(3)
				l := []api.Type{variable(0), ref(variable(2)), variable(1), ref(num())}[:n]
				l[at] = bad
				joins(t, b, false, l...)
				joins(t, b, false, bad, bad)
				for v := range 3 {
					sense(t, b, variable(v), variable(v))
				}
			}
		}
	}
}

// TestAVariableThatComesLater is there only from Fresh on.
func TestAVariableThatComesLater(t *testing.T) {
	b := unify.New()
	for n := range 20 {
		refuses(t, b, variable(n), 9, api.ErrArg)
		joins(t, b, false, variable(n), num())
		joins(t, b, false, ref(variable(n)), ref(variable(n)))
		b.Fresh()
		sense(t, b, variable(n), variable(n))
		joins(t, b, true, ref(variable(n)), ref(ref(num())))
		sense(t, b, variable(n), ref(num()))
	}
}

// TestNilBook is an empty one that stays so.
func TestNilBook(t *testing.T) {
	var b *unify.Book
	f := fn(pair(num(), num()), ref(num()))
	for range 3 {
		if b.Vars() != 0 || whole(b.Fresh()) != whole(api.Type{}) {
			t.Error("P9.1: a nil book has variables")
		}
		joins(t, b, true)
		joins(t, b, true, num())
		joins(t, b, true, f, clone(f), f)
		joins(t, b, false, f, f, num())
		joins(t, b, false, num(), ref(num()))
		joins(t, b, false, variable(0))
		joins(t, b, false, num(), variable(0))
		joins(t, b, false, api.Type{})
		sense(t, b, f, f)
		refuses(t, b, f, 5, api.ErrLong)
		refuses(t, b, variable(0), 5, api.ErrArg)
		refuses(t, b, ref(variable(0)), 5, api.ErrArg)
		refuses(t, b, api.Type{}, 5, api.ErrArg)
		if got, e := b.Sense(f, 6); whole(got) != whole(f) || e != api.OK {
			t.Error("P9.1: Sense of a nil book")
		}
	}
}

func TestBooksStandApart(t *testing.T) {
	a, b := book(3), book(3)
	joins(t, a, true, variable(0), ref(variable(1)))
	joins(t, b, true, variable(0), pair(variable(2), num()))
	sense(t, a, variable(0), ref(variable(1)))
	sense(t, b, variable(0), pair(variable(2), num()))
	a.Fresh()
	if a.Vars() != 4 || b.Vars() != 3 {
		t.Error("P9.1, P0.6: a variable of one book is another one's")
	}
	refuses(t, b, variable(3), 9, api.ErrArg)
}

// TestTheLeastNumber has it for all variables that are the same, in whichever order they were told.
func TestTheLeastNumber(t *testing.T) {
	orders := [][]int{{0, 1, 2, 3, 4}, {4, 3, 2, 1, 0}, {2, 0, 4, 1, 3}, {3, 4, 0, 2, 1}, {1, 3, 2, 4, 0}}
	for _, order := range orders {
		for at := range 6 {
			b := book(7)
			for i := 1; i < len(order); i++ {
				joins(t, b, true, variable(1+order[i-1]), variable(1+order[i]))
				if i == at { // one that was made the same with others counts with all of them
					joins(t, b, true, ref(variable(6)), ref(variable(1+order[0])))
				}
			}
			for v := 1; v < 6; v++ {
				sense(t, b, pair(variable(v), ref(variable(v))), pair(variable(1), ref(variable(1))))
			}
			sense(t, b, variable(0), variable(0))
			joins(t, b, true, variable(5), ref(variable(0)))
			for v := 1; v < 6; v++ {
				sense(t, b, variable(v), ref(variable(0)))
			}
			sense(t, b, variable(0), variable(0))
		}
	}
}

// TestFalseChangesNothing has rows of which all can be the same but what comes last, or one part.
func TestFalseChangesNothing(t *testing.T) {
	v := variable
	for _, l := range [][]api.Type{
		{v(0), v(1), num()},
		{v(0), v(1), v(2), ref(v(2))},
		{v(2), num(), ref(num())},
		{v(0), num()},
		{v(1), v(0)},
		{v(0), v(0), ref(v(0))},
		{ref(v(1)), v(0), v(1)},
		{pair(v(2), pair(v(3), v(3))), pair(num(), pair(v(2), ref(num())))},
		{pair(v(2), v(4)), pair(v(4), fn(v(2), v(4)))},
		{pair(pair(v(2), v(3)), v(0)), pair(pair(v(4), num()), num())},
		{pair(v(2), v(3)), pair(ref(v(3)), ref(v(2)))},
		{fn(v(2), v(3)), fn(num(), num()), pair(num(), num())},
		{pair(num(), num()), fn(num(), num())},
		{ref(num()), num()},
		{num(), fn(v(2), v(3))},
		{v(2), v(3), v(4), v(5), v(6), v(7)},
	} {
		b := book(7)
		joins(t, b, true, v(0), ref(v(1)))
		joins(t, b, true, v(6), v(5))
		for range 2 {
			joins(t, b, false, l...)
			slices.Reverse(l)
			sense(t, b, v(0), ref(v(1)))
			for n := 1; n < 5; n++ {
				sense(t, b, v(n), v(n))
			}
			sense(t, b, v(5), v(5))
			sense(t, b, v(6), v(5))
			if b.Vars() != 7 {
				t.Error("P0.3: a Join that is false changes how many variables there are")
			}
		}
		// What wasn't made the same can still be another thing.
		joins(t, b, true, v(1), fn(num(), num()))
		joins(t, b, true, pair(v(2), v(3)), pair(num(), ref(v(4))))
		joins(t, b, true, v(4), pair(v(2), v(6)))
		sense(t, b, pair(v(0), v(3)), pair(ref(fn(num(), num())), ref(pair(num(), v(5)))))
	}
}

// TestNoneWithinItself has rows of variables each of which stands within the one ahead of it.
func TestNoneWithinItself(t *testing.T) {
	for n := 1; n < 40; n++ {
		for _, wrap := range []func(x api.Type) api.Type{ref, func(x api.Type) api.Type { return pair(num(), x) }, func(x api.Type) api.Type { return fn(fn(x, num()), num()) }} {
			up, down := book(n+1), book(n+1)
			for i := range n {
				joins(t, up, true, variable(i), wrap(variable(i+1)))
				joins(t, down, true, variable(n-1-i), wrap(variable(n-i)))
			}
			for _, b := range []*unify.Book{up, down} {
				for i := range n {
					joins(t, b, false, variable(n), variable(i))
					joins(t, b, false, variable(n), ref(variable(i)))
					joins(t, b, false, pair(num(), pair(variable(i), variable(n))), pair(num(), pair(variable(n), variable(i))))
				}
				joins(t, b, false, variable(n), wrap(variable(n)))
				joins(t, b, true, variable(n), variable(n))
				want := num()
				joins(t, b, true, variable(n), want)
				for range n {
					want = wrap(want)
				}
				sense(t, b, variable(0), want)
			}
		}
	}
	// Two variables, each within the other, at once.
	v := variable
	for _, l := range [][2]api.Type{
		{pair(v(0), ref(v(0))), pair(ref(v(1)), v(1))},
		{pair(v(0), v(1)), pair(ref(v(1)), ref(v(0)))},
		{fn(pair(v(0), v(1)), v(2)), fn(pair(v(1), v(2)), pair(v(0), num()))},
		{pair(v(0), pair(v(1), v(0))), pair(fn(v(2), v(1)), pair(v(2), v(1)))},
		{ref(ref(v(0))), ref(v(0))},
	} {
		b := book(3)
		joins(t, b, false, l[0], l[1])
		joins(t, b, false, l[1], l[0])
		for n := range 3 {
			sense(t, b, v(n), v(n))
		}
	}
}

// TestMost has the greatest number of nodes that may be, of what stands in a type, and of what its variables stand for.
func TestMost(t *testing.T) {
	b := book(5)
	v := variable
	joins(t, b, true, v(0), pair(v(1), v(1)))
	joins(t, b, true, v(1), fn(v(2), ref(v(3))))
	joins(t, b, true, v(4), v(2))
	for _, x := range []struct {
		t    api.Type
		size int
	}{
		{num(), 1}, {v(2), 1}, {v(4), 1}, {v(3), 1}, {ref(v(4)), 2}, {v(1), 4}, {v(0), 9}, {pair(v(0), v(0)), 19}, {fn(v(0), ref(pair(v(1), num()))), 17},
	} {
		for _, most := range []int{0, -1, -2, math.MinInt, math.MinInt + 1, -1 << 31, x.size - 1} {
			refuses(t, b, x.t, most, api.ErrLong)
		}
		for _, most := range []int{x.size, x.size + 1, 1 << 31, 1 << 32, math.MaxInt - 1, math.MaxInt} {
			if s, e := b.Sense(x.t, most); e != api.OK || size(s) != x.size {
				t.Errorf("P9.1: Sense of %s with most %d: %d nodes, error %d", whole(x.t), most, size(s), e)
			}
		}
	}
	for _, most := range []int{math.MinInt, -1, 0, 1, math.MaxInt} { // what may not be is told first
		refuses(t, b, v(5), most, api.ErrArg)
		refuses(t, b, pair(v(0), of(7)), most, api.ErrArg)
	}
}

// tower makes variables from first on, each of which is a pair of the next one; the last one stands for nothing yet.
func tower(t *testing.T, b *unify.Book, n int) int {
	t.Helper()
	first := b.Vars()
	for range n + 1 {
		b.Fresh()
	}
	for i := first; i < first+n; i++ {
		joins(t, b, true, variable(i), pair(variable(i+1), variable(i+1)))
	}
	return first
}

// TestMoreNodesThanCouldBe has senses that no memory holds.
func TestMoreNodesThanCouldBe(t *testing.T) {
	b := unify.New()
	x, y := tower(t, b, 400), tower(t, b, 400)
	for high := range 16 {
		at := variable(x + 400 - high)
		nodes := 1<<(high+1) - 1
		if s, e := b.Sense(at, nodes); e != api.OK || size(s) != nodes {
			t.Error("P9.1: the sense of a tower of", high)
		}
		refuses(t, b, at, nodes-1, api.ErrLong)
	}
	for high := 16; high <= 400; high++ {
		at := variable(x + 400 - high)
		mosts := []int{1, high, high + 1, 1 << 16}
		if high >= 62 {
			mosts = append(mosts, math.MaxInt-1, 1<<62)
		}
		if high >= 63 {
			mosts = append(mosts, math.MaxInt)
		}
		if high < 63 {
			mosts = append(mosts, 1<<(high+1)-2)
		}
		for _, most := range mosts {
			refuses(t, b, at, most, api.ErrLong)
			refuses(t, b, fn(num(), at), most, api.ErrLong)
		}
		if high >= 62 { // together more than a number holds, and as much more as one likes
			wide := at
			for range 20 {
				wide = pair(at, wide)
				refuses(t, b, wide, math.MaxInt, api.ErrLong)
				refuses(t, b, fn(wide, wide), math.MaxInt, api.ErrLong)
			}
		}
	}
	// Made the same, the towers are so from top to bottom; a way that goes through what it met already never ends.
	joins(t, b, true, variable(x), variable(y))
	for i := 385; i <= 400; i++ {
		if s, w := senseOf(t, b, variable(y+i)), senseOf(t, b, variable(x+i)); whole(s) != whole(w) || i == 400 && s.Var != x+400 {
			t.Error("P9.2: the towers aren't the same at", i)
		}
	}
	joins(t, b, false, variable(x), variable(x+1))
	joins(t, b, false, variable(x+400), ref(variable(y)))
	joins(t, b, false, pair(variable(x), num()), pair(variable(y), variable(x)))
	joins(t, b, true, variable(x+400), num())
	joins(t, b, true, variable(x), variable(y))
	refuses(t, b, variable(x), math.MaxInt, api.ErrLong)
	refuses(t, b, variable(y), math.MaxInt, api.ErrLong)
}

// TestTowersOfOtherSteps has two towers whose variables stand at other heights, so that what is to be the same is never a variable with a variable, till the bottom.
func TestTowersOfOtherSteps(t *testing.T) {
	const high = 200
	b := unify.New()
	two := func(x api.Type) api.Type { return pair(x, x) }
	var x, y [high + 2]api.Type
	for i := range x {
		x[i], y[i] = b.Fresh(), b.Fresh()
	}
	for i := range high {
		joins(t, b, true, x[i], two(two(x[i+1])))
		if i > 0 {
			joins(t, b, true, y[i], two(two(y[i+1])))
		}
	}
	joins(t, b, true, y[0], two(y[1]))
	joins(t, b, true, x[0], y[0])
	// The one has an even number of steps, the other an odd one, one less.
	sense(t, b, y[high], two(x[high]))
	joins(t, b, false, x[high], y[high])
	joins(t, b, true, x[high], num())
	sense(t, b, y[high-1], two(two(two(num()))))
	refuses(t, b, x[0], math.MaxInt, api.ErrLong)
	joins(t, b, false, x[0], y[1])
	joins(t, b, false, x[3], num())
	joins(t, b, true, two(x[0]), two(y[0]))
}

// cells are where the kids of types stand, those behind a list's end too, and whether none stands in two lists.
func cells(l ...api.Type) (map[*api.Type]bool, bool) {
	found, apart := map[*api.Type]bool{}, true
	for len(l) > 0 {
		room := l[0].Kids[:cap(l[0].Kids)]
		for i := range room {
			apart = apart && !found[&room[i]]
			found[&room[i]] = true
		}
		l = append(slices.Clone(l[1:]), l[0].Kids...)
	}
	return found, apart
}

// scribble writes into all kids of a type, those far within first.
func scribble(t api.Type) {
	room := t.Kids[:cap(t.Kids)]
	for i := range room {
		scribble(room[i])
		room[i] = api.Type{Kind: 77, Var: 77}
	}
}

func TestMemory(t *testing.T) {
	v := variable
	b := book(6)
	x, y := fn(pair(v(1), ref(num())), v(2)), pair(pair(num(), num()), ref(pair(v(3), v(3))))
	l := []api.Type{v(0), x, clone(x), fn(v(4), y)}
	before := []api.Type{v(0), clone(x), clone(x), clone(l[3])}
	joins(t, b, true, l...)
	if !reflect.DeepEqual(l, before) {
		t.Error("P0.4: Join changes what is handed in")
	}
	ask := pair(v(0), pair(v(4), pair(v(2), ref(v(2)))))
	want := pair(put(map[int]api.Type{2: y}, x), pair(x.Kids[0], pair(y, ref(y))))
	want = clone(want)
	kept, _ := cells(append(l, ask)...)
	a := senseOf(t, b, ask)
	if whole(a) != whole(want) || whole(ask) != whole(pair(v(0), pair(v(4), pair(v(2), ref(v(2)))))) {
		t.Error("P9.1: Sense of", whole(ask), "is", whole(a))
	}
	for range 2 {
		again := senseOf(t, b, ask)
		own, apart := cells(again)
		if !apart {
			t.Error("P0.4: two lists of an answer share memory")
		}
		for p := range own {
			if kept[p] {
				t.Error("P0.4: an answer shares memory with what was handed in, or answered ahead of it")
			}
			kept[p] = true
		}
		scribble(again)
		if got := senseOf(t, b, ask); whole(got) != whole(want) {
			t.Error("P0.4: what is written into an answer changes another one:", whole(got))
		}
	}
	for _, t := range l {
		scribble(t)
	}
	if got := senseOf(t, b, ask); whole(got) != whole(want) {
		t.Error("P0.4: what is handed in is kept:", whole(got))
	}
	closed := pair(num(), ref(num()))
	own, _ := cells(senseOf(t, b, closed))
	theirs, _ := cells(closed)
	for p := range own {
		if theirs[p] {
			t.Error("P0.4: the sense of a closed type shares its memory")
		}
	}
}

// TestRoomBehindAnEnd has lists with other things behind their ends, which count for nothing, and stay.
func TestRoomBehindAnEnd(t *testing.T) {
	b := book(3)
	room := []api.Type{variable(0), ref(variable(1)), num(), {}, variable(9)}
	before := slices.Clone(room)
	joins(t, b, true, room[:2]...)
	kid := []api.Type{variable(2), pair(num(), num()), {}}
	kids := slices.Clone(kid)
	x := of(3, kid[:1]...)
	x.Kids = kid[:1]
	joins(t, b, true, variable(0), x)
	s := senseOf(t, b, x)
	_ = append(s.Kids, api.Type{Kind: 9})
	if !reflect.DeepEqual(room, before) || !reflect.DeepEqual(kid, kids) {
		t.Error("P0.4: the room behind a list's end is changed")
	}
	sense(t, b, variable(2), variable(1))
	sense(t, b, variable(0), ref(variable(1)))
	leaf := api.Type{Kind: 1, Kids: make([]api.Type, 0, 4)}
	joins(t, b, true, variable(1), leaf)
	joins(t, b, true, pair(leaf, num()), pair(num(), leaf))
	for _, x := range []api.Type{variable(1), leaf, variable(0), ref(leaf)} {
		for _, n := range append([]api.Type{senseOf(t, b, x)}, senseOf(t, b, x).Kids...) {
			if cap(n.Kids) > 1 {
				t.Error("P0.4: an answer has the room of what was handed in")
			}
		}
	}
	empty := api.Type{Kind: 5, Var: 2, Kids: []api.Type{}}
	joins(t, b, true, empty, api.Type{Kind: 1, Kids: []api.Type{}})
	sense(t, b, empty, num())
}

// TestManyAtOnce joins a long row, at whose end there may be something that can't be the same.
func TestManyAtOnce(t *testing.T) {
	const n = 1 << 16
	b := book(n)
	l := make([]api.Type, n)
	for i := range l {
		l[i] = variable(n - 1 - i)
	}
	joins(t, b, false, append(slices.Clone(l), ref(variable(7)))...)
	joins(t, b, false, append(slices.Clone(l), num(), ref(num()))...)
	sense(t, b, variable(n-1), variable(n-1))
	joins(t, b, true, l...)
	for _, v := range []int{0, 1, 7, n / 2, n - 1} {
		sense(t, b, variable(v), variable(0))
	}
	joins(t, b, true, variable(n/2), ref(num()))
	sense(t, b, l[0], ref(num()))
	joins(t, b, true, slices.Repeat([]api.Type{ref(num()), variable(3)}, n/2)...)
	joins(t, b, false, append(slices.Repeat([]api.Type{ref(num())}, n), num())...)
}

// TestLongWays has variables that stand for one another in a long row, told from either end.
func TestLongWays(t *testing.T) {
	const n = 1 << 16
	up, down := book(n), book(n)
	for i := range n - 1 {
		if !up.Join(variable(i), variable(i+1)) || !down.Join(variable(n-2-i), variable(n-1-i)) {
			t.Fatal("P9.1: Join of two variables")
		}
	}
	for _, b := range []*unify.Book{up, down} {
		for v := range n {
			if s, e := b.Sense(variable(v), 1); e != api.OK || s.Var != 0 || s.Kind != 5 {
				t.Fatal("P9.1: the sense of", v, "is", whole(s), e)
			}
		}
		joins(t, b, false, variable(n-1), ref(variable(n/2)))
		joins(t, b, true, variable(n-1), num())
		sense(t, b, variable(1), num())
	}
}

// refs is how many refs a type has around something that is none, and that.
func refs(t api.Type) (int, api.Type) {
	n := 0
	for t.Kind == 3 {
		t = t.Kids[0]
		n++
	}
	return n, t
}

// TestNestedDeep has senses that nest deep, by what is handed in, and by variables that stand within one another.
func TestNestedDeep(t *testing.T) {
	const deep = 1 << 16
	nest := func(x api.Type) api.Type {
		for range deep - 1 {
			x = ref(x)
		}
		return x
	}
	b := book(4)
	joins(t, b, true, nest(variable(0)), nest(ref(num())))
	sense(t, b, variable(0), ref(num()))
	joins(t, b, false, nest(variable(1)), nest(ref(variable(1))))
	joins(t, b, true, variable(1), nest(variable(2)))
	joins(t, b, false, variable(2), variable(1))
	joins(t, b, true, variable(3), nest(variable(1)))
	if n, x := refs(senseOf(t, b, variable(3))); n != 2*(deep-1) || whole(x) != "?2" {
		t.Error("P9.1: a sense that nests deep:", n, whole(x))
	}
	refuses(t, b, variable(3), 2*(deep-1), api.ErrLong)
	if s, e := b.Sense(variable(3), 2*(deep-1)+1); e != api.OK || s.Kind != 3 {
		t.Error("P9.1: a sense of just so many nodes")
	}
	joins(t, b, false, variable(2), variable(3))
	joins(t, b, true, variable(2), num())
}

// TestLongRowWithin has each variable within the next one's type; the sense of the last one nests deeper than any type that is handed in.
func TestLongRowWithin(t *testing.T) {
	const n = 1 << 18
	b := unify.New()
	last := b.Fresh()
	for range n {
		x := b.Fresh()
		if !b.Join(x, ref(last)) {
			t.Fatal("P9.1: Join of a new variable")
		}
		last = x
	}
	refuses(t, b, last, n, api.ErrLong)
	if k, x := refs(senseOf(t, b, last)); k != n || whole(x) != "?0" {
		t.Error("P9.1: a long row:", k, whole(x))
	}
	joins(t, b, false, variable(0), last)
	joins(t, b, false, variable(0), pair(num(), last))
	joins(t, b, false, variable(n/2), last)
	joins(t, b, true, variable(0), num())
	if k, x := refs(senseOf(t, b, last)); k != n || whole(x) != "int" {
		t.Error("P9.1: a long row, closed:", k, whole(x))
	}
}

// heap is how much memory is in use.
func heap() uint64 {
	var m runtime.MemStats
	runtime.GC()
	runtime.ReadMemStats(&m)
	return m.HeapAlloc
}

// TestNoMoreIsKept tells again and again what a book knows, or what can't be: it has no need to keep any of that.
func TestNoMoreIsKept(t *testing.T) {
	b := book(8)
	v := variable
	joins(t, b, true, v(0), pair(v(1), fn(v(2), ref(num()))))
	joins(t, b, true, v(3), v(4), v(5))
	tell := func() {
		joins(t, b, true, v(0), pair(v(1), fn(v(2), ref(num()))))
		joins(t, b, true, pair(v(5), num()), pair(v(3), num()))
		joins(t, b, true, v(0), pair(v(1), fn(v(2), ref(num()))), v(0))
		joins(t, b, false, pair(v(6), v(0)), pair(ref(v(7)), ref(v(2))))
		joins(t, b, false, v(6), ref(pair(v(7), ref(v(6)))))
		senseOf(t, b, pair(v(0), v(4)))
		b.Sense(v(0), 3)
	}
	tell()
	before := heap()
	for range 20000 {
		tell()
	}
	if now := heap(); now > before+1<<19 {
		t.Error("rule 8 of the language: a book keeps what it need not:", now-before, "bytes")
	}
	runtime.KeepAlive(b)
}
