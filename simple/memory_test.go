package simple_test

import (
	"math"
	"reflect"
	"slices"
	"testing"

	"enclave/api"
	"enclave/simple"
)

// big has a node of each kind, and types fit it.
const big = "letrec f x = if x < 1 then ( x , ref ( fn y => y + x ) ) else let p = f ( x - 1 ) in try ( fst p , snd p ) with E e => let u = snd p := ( fn y => ! ref y ) in raise F ( e * 2 ) in f 3"

func TestBigHasAllKinds(t *testing.T) {
	kinds := kindsOf(read(t, big))
	for _, r := range kindRows {
		if !slices.Contains(kinds, r.kind) {
			t.Error("none of the kind", r.name)
		}
	}
	holds(t, read(t, big))
	holds(t, scattered(read(t, big)))
}

// nodesOf are the nodes of terms with types, each ahead of its kids, in order.
func nodesOf(y *api.Typed) []*api.Typed {
	l := []*api.Typed{y}
	for i := range y.Kids {
		l = append(l, nodesOf(&y.Kids[i])...)
	}
	return l
}

// copyOf is a term with types that shares no memory with another one.
func copyOf(y api.Typed) api.Typed {
	y.Type, y.Bind = copyOfType(y.Type), copyOfType(y.Bind)
	kids := y.Kids
	y.Kids = nil
	for _, k := range kids {
		y.Kids = append(y.Kids, copyOf(k))
	}
	return y
}

func copyOfType(t api.Type) api.Type {
	kids := t.Kids
	t.Kids = nil
	for _, k := range kids {
		t.Kids = append(t.Kids, copyOfType(k))
	}
	return t
}

// copyOfTerm is a term that shares no memory with another one.
func copyOfTerm(t api.Term) api.Term {
	kids := t.Kids
	t.Kids = nil
	for _, k := range kids {
		t.Kids = append(t.Kids, copyOfTerm(k))
	}
	return t
}

// cells are where kids stand, those behind a list's end too; none is to stand in two lists.
type cells struct {
	found map[any]bool
	twice bool
}

func (c *cells) add(at any) {
	c.twice = c.twice || c.found[at]
	c.found[at] = true
}

func (c *cells) typ(t api.Type) {
	room := t.Kids[:cap(t.Kids)]
	for i := range room {
		c.add(&room[i])
	}
	for _, k := range t.Kids {
		c.typ(k)
	}
}

func (c *cells) typed(y api.Typed) {
	c.typ(y.Type)
	c.typ(y.Bind)
	room := y.Kids[:cap(y.Kids)]
	for i := range room {
		c.add(&room[i])
	}
	for _, k := range y.Kids {
		c.typed(k)
	}
}

func (c *cells) term(t api.Term) {
	room := t.Kids[:cap(t.Kids)]
	for i := range room {
		c.add(&room[i])
	}
	for _, k := range t.Kids {
		c.term(k)
	}
}

// scribble writes into all that there is of a term with types.
func scribble(y *api.Typed) {
	for i := range y.Kids {
		scribble(&y.Kids[i])
	}
	scribbleType(&y.Type)
	scribbleType(&y.Bind)
	y.Head = api.Head{Kind: 77, At: 77, Name: "none"}
}

func scribbleType(t *api.Type) {
	for i := range t.Kids {
		scribbleType(&t.Kids[i])
	}
	t.Kind, t.Var = 77, 77
}

func scribbleTerm(t *api.Term) {
	for i := range t.Kids {
		scribbleTerm(&t.Kids[i])
	}
	t.Head = api.Head{Kind: 77, At: 77, Name: "none"}
}

func TestAnswersAreNewMemory(t *testing.T) {
	x := read(t, big)
	before := copyOfTerm(x)
	first, second := typable(t, big, x), typable(t, big, x)
	want := whole(first)
	c := &cells{found: map[any]bool{}}
	c.typed(first)
	c.typed(second)
	c.term(x)
	if c.twice {
		t.Error("P0.4: two lists share memory")
	}
	erased, again := simple.Erase(first), simple.Erase(first)
	c.term(erased)
	c.term(again)
	if c.twice {
		t.Error("P0.4: two lists share memory, of Erase")
	}
	scribble(&first)
	if !reflect.DeepEqual(x, before) || whole(second) != want || !reflect.DeepEqual(erased, before) {
		t.Error("P0.4: what is written into an answer changes something else")
	}
	scribbleTerm(&erased)
	if !reflect.DeepEqual(x, before) || whole(second) != want || !reflect.DeepEqual(again, before) {
		t.Error("P0.4: what is written into an answer of Erase changes something else")
	}
	if whole(typable(t, big, x)) != want || !reflect.DeepEqual(simple.Erase(second), before) {
		t.Error("P0.4: what is written into an answer changes a later one")
	}
	scribbleTerm(&x)
	if whole(second) != want || !reflect.DeepEqual(simple.Erase(second), before) {
		t.Error("P0.4: what was handed in is kept")
	}
}

// roomy is a term all of whose lists have room behind their end, in which something stands.
func roomy(t api.Term) api.Term {
	kids := make([]api.Term, 0, len(t.Kids)+3)
	for _, k := range t.Kids {
		kids = append(kids, roomy(k))
	}
	n := len(kids)
	kids = append(kids, name("behind"), term(4, number()), api.Term{})
	t.Kids = kids[:n]
	return t
}

// roomyTyped is the same of a term with types.
func roomyTyped(y api.Typed) api.Typed {
	y.Type, y.Bind = roomyType(y.Type), roomyType(y.Bind)
	kids := make([]api.Typed, 0, len(y.Kids)+2)
	for _, k := range y.Kids {
		kids = append(kids, roomyTyped(k))
	}
	n := len(kids)
	kids = append(kids, api.Typed{Head: api.Head{Kind: 1, N: 5}, Type: ref(num())}, api.Typed{})
	y.Kids = kids[:n]
	return y
}

func roomyType(t api.Type) api.Type {
	kids := make([]api.Type, 0, len(t.Kids)+2)
	for _, k := range t.Kids {
		kids = append(kids, roomyType(k))
	}
	n := len(kids)
	kids = append(kids, ref(num()), api.Type{})
	t.Kids = kids[:n]
	return t
}

// behind is all that stands behind the ends of lists.
func behind(t api.Term) []api.Term {
	l := slices.Clone(t.Kids[len(t.Kids):cap(t.Kids)])
	for _, k := range t.Kids {
		l = append(l, behind(k)...)
	}
	return l
}

func TestArgumentsStay(t *testing.T) {
	for _, s := range []string{big, "1", "fn x => fst x", "( 1 , fst 2 )", "( 1 , x )", "let x = ref 1 in ( x := ref 2 , y )", "let a = 1 in let b = ( a , ( a , 1 ) ) in try raise E 1 with E x => b"} {
		x := roomy(read(t, s))
		before, room := copyOfTerm(x), slices.Clone(behind(x))
		want, wantAt, wantE := simple.Check(read(t, s))
		for range 2 { // what was asked ahead counts for nothing
			got, at, e := simple.Check(x)
			if whole(got) != whole(want) || at != wantAt || e != wantE {
				t.Errorf("P0.4: Check of %s with room behind lists' ends = %s %d %d", s, whole(got), at, e)
			}
			if !reflect.DeepEqual(copyOfTerm(x), before) || !reflect.DeepEqual(behind(x), room) {
				t.Fatalf("P0.4: Check of %s changes what was handed in", s)
			}
		}
	}
	y := typable(t, big, read(t, big))
	z := roomyTyped(y)
	twin := roomyTyped(y)
	for range 2 {
		if !simple.Same(y, z) || !simple.Same(z, y) || !simple.Same(z, z) {
			t.Error("P0.4: Same with room behind lists' ends")
		}
		if !reflect.DeepEqual(simple.Erase(z), read(t, big)) {
			t.Error("P0.4: Erase with room behind lists' ends")
		}
	}
	if !sameRoom(z, twin) {
		t.Error("P0.4: what was handed in is changed")
	}
}

// sameRoom tells whether two terms with types are the same, what stands behind lists' ends, too.
func sameRoom(a, b api.Typed) bool {
	a.Kids, b.Kids = a.Kids[:cap(a.Kids)], b.Kids[:cap(b.Kids)]
	if a.Head != b.Head || !sameTypeRoom(a.Type, b.Type) || !sameTypeRoom(a.Bind, b.Bind) {
		return false
	}
	return slices.EqualFunc(a.Kids, b.Kids, sameRoom)
}

func sameTypeRoom(a, b api.Type) bool {
	a.Kids, b.Kids = a.Kids[:cap(a.Kids)], b.Kids[:cap(b.Kids)]
	return a.Kind == b.Kind && a.Var == b.Var && slices.EqualFunc(a.Kids, b.Kids, sameTypeRoom)
}

// TestErase has terms with types that Check tells, and such ones as it never would.
func TestErase(t *testing.T) {
	for _, s := range []string{big, "1", "fn x => x", "letrec f x = f in 1 + 1", "letrec f x = f x in f", "( 1 , ( 2 , 3 ) )"} {
		x := scattered(read(t, s))
		y, _, e := simple.Check(x)
		if got := simple.Erase(y); e == api.OK && !reflect.DeepEqual(got, x) {
			t.Errorf("P10.1: Erase of what Check tells of %s = %v", s, got)
		}
	}
	head := api.Head{Kind: 200, Op: 9, At: -5, N: math.MinInt64, Name: "In", Arg: "", Exn: "e x"}
	odd := api.Typed{Head: head, Type: of(9, num()), Bind: ref(num()), Kids: []api.Typed{{}, {Head: head}, {Head: api.Head{Kind: 3}, Kids: []api.Typed{{Head: head, Type: num()}}}}}
	want := node(head, api.Term{}, node(head), term(3, node(head)))
	if got := simple.Erase(odd); !reflect.DeepEqual(got, want) {
		t.Errorf("P10.1: Erase of %v = %v", odd, got)
	}
	if got := simple.Erase(api.Typed{}); !reflect.DeepEqual(got, api.Term{}) {
		t.Errorf("P10.1: Erase of nothing = %v", got)
	}
	if got := simple.Erase(api.Typed{Kids: []api.Typed{}}); len(got.Kids) != 0 || got.Head != (api.Head{}) {
		t.Errorf("P10.1: Erase of an empty list = %v", got)
	}
}

// changes are a node, changed in one thing each.
func changes(y api.Typed) []api.Typed {
	var l []api.Typed
	put := func(change func(y *api.Typed)) {
		z := copyOf(y)
		change(&z)
		l = append(l, z)
	}
	put(func(y *api.Typed) { y.Kind++ })
	put(func(y *api.Typed) { y.Op++ })
	put(func(y *api.Typed) { y.At++ })
	put(func(y *api.Typed) { y.N++ })
	put(func(y *api.Typed) { y.Name += "x" })
	put(func(y *api.Typed) { y.Arg += "x" })
	put(func(y *api.Typed) { y.Exn += "X" })
	for _, of := range []func(y *api.Typed) *api.Type{func(y *api.Typed) *api.Type { return &y.Type }, func(y *api.Typed) *api.Type { return &y.Bind }} {
		put(func(y *api.Typed) { of(y).Kind++ })
		put(func(y *api.Typed) { of(y).Var++ })
		put(func(y *api.Typed) { of(y).Kids = append(of(y).Kids, api.Type{}) })
		if n := len(of(&y).Kids); n > 0 {
			put(func(y *api.Typed) { of(y).Kids = of(y).Kids[:n-1] })
			put(func(y *api.Typed) { of(y).Kids = nil })
			for i := range n {
				put(func(y *api.Typed) { of(y).Kids[i].Kind++ })
				put(func(y *api.Typed) { of(y).Kids[i].Var++ })
				put(func(y *api.Typed) { of(y).Kids[i].Kids = append(of(y).Kids[i].Kids, num()) })
			}
		}
	}
	put(func(y *api.Typed) { y.Kids = append(y.Kids, api.Typed{}) })
	if n := len(y.Kids); n > 0 {
		put(func(y *api.Typed) { y.Kids = y.Kids[:n-1] })
		put(func(y *api.Typed) { y.Kids = y.Kids[1:] })
		put(func(y *api.Typed) { y.Kids = nil })
	}
	return l
}

func TestSame(t *testing.T) {
	y := typable(t, big, read(t, big))
	if !simple.Same(y, y) || !simple.Same(y, copyOf(y)) {
		t.Error("P10.1: Same of the same")
	}
	for i, n := range nodesOf(&y) {
		for j, c := range changes(*n) {
			z := copyOf(y)
			*nodesOf(&z)[i] = c
			if simple.Same(y, z) || simple.Same(z, y) {
				t.Errorf("P10.1: Same, with the change %d at the node %d", j, i)
			}
			if !simple.Same(z, copyOf(z)) {
				t.Errorf("P10.1: Same of the same, with the change %d at the node %d", j, i)
			}
		}
	}
	for _, l := range [][2]string{{"( 1 , 2 )", "( 2 , 1 )"}, {"1 + 2", "1 - 2"}, {"fn x => 1", "fn y => 1"}, {"1", " 1"}, {"raise E 1", "raise F 1"}, {"( 1 , 2 )", "( 1 ,  2 )"}, {"fn x => x", "fn x => x + 1"}} {
		a, b := typable(t, l[0], read(t, l[0])), typable(t, l[1], read(t, l[1]))
		if simple.Same(a, b) || simple.Same(b, a) || !simple.Same(a, a) || !simple.Same(b, b) {
			t.Errorf("P10.1: Same of %s and %s", l[0], l[1])
		}
	}
	empty := api.Typed{Type: api.Type{Kids: []api.Type{}}, Bind: api.Type{Kids: []api.Type{}}, Kids: []api.Typed{}}
	if !simple.Same(empty, api.Typed{}) || !simple.Same(api.Typed{}, empty) || !simple.Same(api.Typed{}, api.Typed{}) {
		t.Error("P0.5: Same of nil and empty lists")
	}
}

// TestSameOfTwoChanges has two changes at a time, at one node, and at two: no other one makes up for a change, unless it takes it back.
func TestSameOfTwoChanges(t *testing.T) {
	y := typable(t, "a short term", read(t, "letrec f x = ref x in 1 + 2"))
	holds := func(z api.Typed) {
		if want := whole(y) == whole(z); simple.Same(y, z) != want || simple.Same(z, y) != want {
			t.Errorf("P10.1: Same of %s and %s isn't %t", whole(y), whole(z), want)
		}
	}
	for i, n := range nodesOf(&y) {
		for _, c := range changes(*n) {
			for _, d := range changes(c) {
				z := copyOf(y)
				*nodesOf(&z)[i] = d
				holds(z)
			}
			for j, m := range nodesOf(&y) {
				for _, d := range changes(*m) {
					z := copyOf(y)
					l := nodesOf(&z)
					l[j].Head, l[j].Type, l[j].Bind = d.Head, d.Type, d.Bind
					l[i].Head, l[i].Type, l[i].Bind = c.Head, c.Type, c.Bind
					holds(z)
				}
			}
		}
	}
}

// TestPlacesCountAlone has a term twice, the second time with other places: its types are the same, but not the whole.
func TestPlacesCountAlone(t *testing.T) {
	a, b := typable(t, big, read(t, big)), typable(t, big, scattered(read(t, big)))
	if simple.Same(a, b) {
		t.Error("P10.1: Same of other places")
	}
	one, other := nodesOf(&a), nodesOf(&b)
	for i := range one {
		other[i].At = one[i].At
	}
	if !simple.Same(a, b) {
		t.Error("P10.1: types hang on places")
	}
}

// TestNestedDeep has as many parts nested as the document's limits allow.
func TestNestedDeep(t *testing.T) {
	const deep = 1<<16 - 1
	chain := func(end api.Typed) api.Typed {
		y := end
		for i := range deep {
			y = api.Typed{Head: api.Head{Kind: 6, At: i}, Type: num(), Kids: []api.Typed{y}}
		}
		return y
	}
	end := api.Typed{Head: api.Head{Kind: 1}, Type: num()}
	y := chain(end)
	x := simple.Erase(y)
	n := 1
	for len(x.Kids) > 0 {
		if x.At != deep-n {
			t.Fatal("P10.1: Erase of what is nested deep, at", n)
		}
		x, n = x.Kids[0], n+1
	}
	if n != deep+1 || x.Kind != 1 {
		t.Error("P10.1: Erase of what is nested deep", n)
	}
	if !simple.Same(y, chain(end)) {
		t.Error("P10.1: Same of what is nested deep")
	}
	for i, c := range changes(end) {
		if simple.Same(y, chain(c)) {
			t.Error("P10.1: Same of what is nested deep, with the change", i)
		}
	}
	wide := api.Typed{Kids: slices.Repeat([]api.Typed{end}, 1<<16)}
	if got := simple.Erase(wide); len(got.Kids) != 1<<16 || got.Kids[1<<16-1].Kind != 1 || !simple.Same(wide, copyOf(wide)) {
		t.Error("P10.1: of many kids")
	}
}

// TestCallsStandAlone has calls that end in each way, one behind the other: none changes another one's answer.
func TestCallsStandAlone(t *testing.T) {
	l := []string{big, "fst 1", "x", "fn x => x", "let a = 1 in " + "fst a", "letrec f x = f in 1"}
	type answer struct {
		whole string
		at    int
		e     api.Errno
	}
	ask := func(s string) answer {
		y, at, e := simple.Check(read(t, s))
		return answer{whole(y), at, e}
	}
	var first []answer
	for _, s := range l {
		first = append(first, ask(s))
	}
	for i, s := range l {
		for range 3 {
			if got := ask(s); got != first[i] {
				t.Errorf("P0.6: Check of %s = %v, and ahead of it %v", s, got, first[i])
			}
		}
		for _, other := range l {
			simple.Check(read(t, other))
			if got := ask(s); got != first[i] {
				t.Errorf("P0.6: Check of %s = %v behind %s", s, got, other)
			}
		}
	}
}
