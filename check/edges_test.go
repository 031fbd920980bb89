package check_test

import (
	"math"
	"slices"
	"strconv"
	"strings"
	"testing"

	"enclave/api"
	"enclave/check"
)

// marked is the term of a text, and the place of the node that a mark stands ahead of; without one that is the first one.
func marked(t *testing.T, text string) (api.ATerm, int) {
	t.Helper()
	at := max(slices.Index(strings.Split(text, " "), "^"), 0)
	return read(t, strings.Replace(text, "^ ", "", 1)), at
}

// TestFirstError has terms with several errors, of which the mark tells the one that is answered.
func TestFirstError(t *testing.T) {
	for _, c := range []struct {
		text string
		e    api.Errno
	}{
		// Ahead of all: a region that is bound twice.
		{"( x , ( region 2 in ( ( region 3 in x ) , ^ ( region 3 in x ) @ 1 ) ) @ 9 )", api.ErrRegion},
		{"( ( region 1 in ^ ( region 1 in ( fst x ) ) ) 1 )", api.ErrRegion},
		// What isn't in scope, ahead of the kids.
		{"( fst ^ ( x , ( fst 1 ) @ 1 ) )", api.ErrScope},
		{"( fn x : ( ref int @ 1 ) ! none => ( fst x ) @ 0 )", api.ErrScope},
		{"( fn x : int ! exn E , exn F => y @ 1 )", api.ErrScope},
		{"( raise E ( fst 1 ) : ( ref int @ 1 ) )", api.ErrScope},
		{"( letrec f [ 1 ] x : int -> ( ref int @ 2 ) ! none = ( fst 1 ) @ 0 in ( fst 1 ) )", api.ErrScope},
		// Of a name: whether it is there, ahead of what it is.
		{"( letrec f [ ] x : int -> int ! none = x @ 0 in ^ ( f [ 1 ] ! none @ 0 ) )", api.ErrScope},
		{"( letrec f [ ] x : int -> int ! none = x @ 0 in ^ ( f [ 0 ] ! get 1 @ 0 ) )", api.ErrScope},
		{"( letrec f [ ] x : int -> int ! none = x @ 0 in ^ ( f [ 0 ] ! none @ 1 ) )", api.ErrScope},
		{"( letrec f [ ] x : int -> int ! get 0 = x @ 0 in ^ ( f [ 0 ] ! none @ 0 ) )", api.ErrType},
		// One kid ahead of the next one, and all of them ahead of the node.
		{"( ^ ( fst 1 ) ( region 1 in ( ref 1 @ 1 ) ) )", api.ErrType},
		{"( ^ ( region 1 in ( ref 1 @ 1 ) ) + ( fst 1 ) )", api.ErrRegion},
		{"( if 1 then ^ ( region 1 in ( ref 1 @ 1 ) ) else x )", api.ErrRegion},
		{"( if ( ref 1 @ 0 ) then 1 else ^ x )", api.ErrScope},
		{"( letrec f [ ] x : int -> int ! none = ^ y @ 0 in ( fst 1 ) )", api.ErrScope},
		{"( letrec f [ ] x : int -> int ! none = ( ref 1 @ 0 ) @ 0 in ^ x )", api.ErrScope},
		{"( try 1 with E x => ^ ( fst x ) )", api.ErrType},
		{"( let x = ^ ( fst 1 ) in y )", api.ErrType},
		{"( fn x : int ! none => ^ ( fst ( ref 1 @ 0 ) ) @ 0 )", api.ErrType},
		{"( region 1 in ( ref ^ ( ! 1 ) @ 1 ) )", api.ErrType},
		{"( raise E ^ ( fst 1 ) : int )", api.ErrType},
		// Types ahead of effects and regions.
		{"( letrec f [ ] x : int -> int ! none = ( ref 1 @ 0 ) @ 0 in 1 )", api.ErrType},
		// Of two nodes the inner one, though its error would come behind.
		{"( fst ^ ( fn x : int ! none => ( ref 1 @ 0 ) @ 0 ) )", api.ErrRegion},
		{"( ! ^ ( region 1 in ( 1 , 2 @ 1 ) ) )", api.ErrRegion},
	} {
		x, at := marked(t, c.text)
		wrong(t, x, at, c.e)
	}
}

// tower is a type of so many nodes.
func tower(nodes int) api.RType {
	y := intType()
	for range nodes - 1 {
		y = refType(0, y)
	}
	return y
}

// raised is a term of a type.
func raised(y api.RType) api.ATerm {
	t := node(api.Head{Kind: 15, Exn: "E"}, 0, num(1))
	t.Type = y
	return t
}

func fn(arg string, y api.RType, a api.ATerm, e ...api.Atom) api.ATerm {
	t := node(api.Head{Kind: 11, Arg: arg}, 0, a)
	t.Type, t.Eff = y, e
	return t
}

func let(s string, a, b api.ATerm) api.ATerm { return node(api.Head{Kind: 12, Name: s}, 0, a, b) }

func rec(y, z api.RType, rhos []int, a, b api.ATerm, e ...api.Atom) api.ATerm {
	t := node(api.Head{Kind: 13, Name: "f", Arg: "x"}, 0, a, b)
	t.Type, t.Res, t.Rhos, t.Eff = y, z, rhos, e
	return t
}

func try(a, b api.ATerm) api.ATerm { return node(api.Head{Kind: 16, Exn: "E", Arg: "x"}, 0, a, b) }

func inst(rhos []int, e ...api.Atom) api.ATerm {
	t := node(api.Head{Kind: 18, Name: "f"}, 0)
	t.Rhos, t.Eff = rhos, e
	return t
}

// at is a node at a place.
func at(place int, t api.ATerm) api.ATerm {
	t.At = place
	return t
}

// TestGreatTypes has types of 500 nodes and of 501, of all nodes that may have them.
func TestGreatTypes(t *testing.T) {
	exn := exn("E")
	for _, c := range []struct {
		name string
		of   func(n int) api.ATerm // a node at 7 has a type of n nodes, or so many more
		more int
	}{
		{"KRaise", func(n int) api.ATerm { return at(7, raised(tower(n))) }, 0},
		{"KPair first", func(n int) api.ATerm { return at(7, of(3, raised(tower(n)), num(1))) }, 2},
		{"KPair second", func(n int) api.ATerm { return at(7, of(3, num(1), raised(tower(n)))) }, 2},
		{"KPair both", func(n int) api.ATerm { return at(7, of(3, raised(tower(240)), raised(tower(n)))) }, 241},
		{"KRef", func(n int) api.ATerm { return at(7, of(6, raised(tower(n)))) }, 1},
		{"KFn argument", func(n int) api.ATerm { return at(7, fn("x", tower(n), num(1))) }, 2},
		{"KFn body", func(n int) api.ATerm { return at(7, fn("x", intType(), raised(tower(n)), exn)) }, 2},
		{"KInst argument", func(n int) api.ATerm { return rec(tower(n), intType(), nil, num(1), at(7, inst(nil))) }, 2},
		{"KInst answer", func(n int) api.ATerm {
			return rec(intType(), tower(n), nil, raised(tower(n)), at(7, inst(nil, exn)), exn)
		}, 2},
		{"KVar of KLetrec", func(n int) api.ATerm { return rec(tower(n), tower(n), nil, at(7, name("x")), num(1)) }, 0},
		{"in KFst", func(n int) api.ATerm { return of(4, at(7, of(3, raised(tower(n)), num(1)))) }, 2},
	} {
		for _, n := range []int{1, 100, 250, 499 - c.more, 500 - c.more} {
			if e := holds(t, c.of(n)); e != api.OK {
				t.Errorf("P15.1: %s, %d nodes: error %d", c.name, n+c.more, e)
			}
		}
		for n := 501 - c.more; n <= max(500, 501-c.more); n++ { // what stands within is small enough, if it can be
			wrong(t, c.of(n), 7, api.ErrLong)
		}
	}
	// A type that is told, but that no node has, may have any number; a name has it where it stands.
	right(t, rec(tower(70000), tower(500), nil, raised(tower(500)), num(1), exn), "int", "put 0")
	wrong(t, fn("x", tower(501), at(7, name("x"))), 7, api.ErrLong)
	wrong(t, at(7, fn("x", tower(500), name("x"))), 7, api.ErrLong)
	wrong(t, at(7, raised(tower(1<<16))), 7, api.ErrLong)
	// What else is wrong with a node comes ahead of it.
	wrong(t, at(7, fn("x", tower(501), of(6, num(1)))), 7, api.ErrRegion)
	wrong(t, at(7, fn("x", refType(1, tower(501)), num(1))), 7, api.ErrScope)
	x := at(7, raised(tower(501)))
	x.Kids[0] = of(3, num(1), num(1))
	wrong(t, x, 7, api.ErrType)
	wrong(t, rec(tower(501), intType(), nil, num(1), at(7, inst(nil)), exn), 7, api.ErrRegion)
	wrong(t, rec(tower(501), intType(), nil, num(1), at(7, inst([]int{0}))), 7, api.ErrType)
	// What would be too great further out comes behind.
	wrong(t, at(3, of(6, at(7, raised(tower(501))))), 7, api.ErrLong)
	wrong(t, of(3, at(7, raised(tower(501))), name("y")), 7, api.ErrLong)
	wrong(t, of(3, at(7, name("y")), raised(tower(501))), 7, api.ErrScope)
	wrong(t, at(7, fn("x", tower(501), name("y"))), 0, api.ErrScope)
}

// TestGreatTerms has 40000 nodes of each kind in each kid, and one more.
func TestGreatTerms(t *testing.T) {
	id := fn("x", intType(), name("x"))
	for _, c := range []struct {
		name string
		put  func(a api.ATerm, i int) api.ATerm
		more int // how many nodes each one takes
		e    api.Errno
	}{
		{"KPair", func(a api.ATerm, i int) api.ATerm { return of(3, a, num(1)) }, 2, api.ErrLong},
		{"KFst", func(a api.ATerm, i int) api.ATerm { return of(4, of(3, a, num(1))) }, 3, api.OK},
		{"KSnd", func(a api.ATerm, i int) api.ATerm { return of(5, of(3, num(1), a)) }, 3, api.OK},
		{"KRef", func(a api.ATerm, i int) api.ATerm { return of(6, a) }, 1, api.ErrLong},
		{"KGet", func(a api.ATerm, i int) api.ATerm { return of(7, of(6, a)) }, 2, api.OK},
		{"KSet", func(a api.ATerm, i int) api.ATerm { return of(8, of(6, num(1)), a) }, 3, api.OK},
		{"KOp first", func(a api.ATerm, i int) api.ATerm { return node(api.Head{Kind: 9, Op: 1}, 0, a, num(1)) }, 2, api.OK},
		{"KOp second", func(a api.ATerm, i int) api.ATerm { return node(api.Head{Kind: 9, Op: 5}, 0, num(1), a) }, 2, api.OK},
		{"KApp", func(a api.ATerm, i int) api.ATerm { return of(10, id, a) }, 3, api.OK},
		{"KFn", func(a api.ATerm, i int) api.ATerm { return fn("x", intType(), a, put(0)) }, 1, api.ErrLong},
		{"KFn called", func(a api.ATerm, i int) api.ATerm { return of(10, fn("x", intType(), a, get(0), put(0)), num(1)) }, 3, api.OK},
		{"KLet first", func(a api.ATerm, i int) api.ATerm { return let("x", a, name("x")) }, 2, api.OK},
		{"KLet second", func(a api.ATerm, i int) api.ATerm { return let("x", num(1), a) }, 2, api.OK},
		{"KLetrec first", func(a api.ATerm, i int) api.ATerm {
			return rec(intType(), intType(), []int{i + 1}, a, num(1), put(0))
		}, 2, api.OK},
		{"KLetrec second", func(a api.ATerm, i int) api.ATerm {
			return rec(intType(), intType(), []int{i + 1}, num(1), a)
		}, 2, api.OK},
		{"KIf first", func(a api.ATerm, i int) api.ATerm { return of(14, a, num(1), num(2)) }, 3, api.OK},
		{"KIf second", func(a api.ATerm, i int) api.ATerm { return of(14, num(1), a, num(2)) }, 3, api.OK},
		{"KIf third", func(a api.ATerm, i int) api.ATerm { return of(14, num(1), num(2), a) }, 3, api.OK},
		{"KRaise", func(a api.ATerm, i int) api.ATerm {
			x := raised(intType())
			x.Kids[0] = a
			return x
		}, 1, api.OK},
		{"KTry first", func(a api.ATerm, i int) api.ATerm { return try(a, num(1)) }, 2, api.OK},
		{"KTry second", func(a api.ATerm, i int) api.ATerm { return try(num(1), a) }, 2, api.OK},
		{"KRegion", func(a api.ATerm, i int) api.ATerm { return in(i+1, 17, a) }, 1, api.OK},
		{"regions, each of its own", func(a api.ATerm, i int) api.ATerm {
			return in(i+1, 17, let("x", in(i+1, 6, num(1)), of(10, id, a)))
		}, 7, api.OK},
	} {
		x := num(1)
		n := (api.MaxATerm - 1) / c.more
		for i := range n {
			x = c.put(x, i)
		}
		if e := holds(t, x); e != c.e {
			t.Errorf("P15.1: %s, %d nodes: error %d, want %d", c.name, 1+n*c.more, e, c.e)
		}
		wrong(t, c.put(x, n), 0, api.ErrArg)
	}
}

// TestManyRegions has many regions in scope, all of them used at once, and many names, of which the outmost one is used.
func TestManyRegions(t *testing.T) {
	x, n := name("x0"), 700
	for i := range n {
		x = of(4, in(n-i, 3, x, num(1)))
	}
	for i := range n {
		x = let("x"+strconv.Itoa(n-1-i), in(n-i, 6, num(1)), x)
	}
	kept := x
	for i := range n {
		x = in(i+1, 17, x)
	}
	wrong(t, x, 0, api.ErrRegion) // what comes of it is x0, which stands in one of them
	x = of(7, kept)
	for i := range n {
		x = in(i+1, 17, x)
	}
	right(t, x, "int", "none")
	wrong(t, of(5, of(3, num(1), at(7, kept))), 0, api.ErrScope)
}

// TestMayNot has terms that may not be, whatever else is wrong with them.
func TestMayNot(t *testing.T) {
	x, place := marked(t, "( letrec f [ 1 2 ] x : int -> ( ref int @ 1 ) ! put 1 = ( ref 1 @ 1 ) @ 0 in ( region 3 in ( try ( ( f [ 3 3 ] ! put 3 @ 3 ) ( raise E ^ y : int ) ) with E x => ( fn x : int ! get 9 => x @ 0 ) ) ) )")
	wrong(t, x, place, api.ErrScope)
	spoil := []func(n *api.ATerm){
		func(n *api.ATerm) { n.Kind = 0 },
		func(n *api.ATerm) { n.Kind = 19 },
		func(n *api.ATerm) { n.Kind = 255 },
		func(n *api.ATerm) { n.At = -1 },
		func(n *api.ATerm) { n.At = math.MinInt },
		func(n *api.ATerm) { n.N = -1 },
		func(n *api.ATerm) { n.N = 1 << 31 },
		func(n *api.ATerm) { n.Op = 6 },
		func(n *api.ATerm) { n.Name = "X" },
		func(n *api.ATerm) { n.Arg = "let" },
		func(n *api.ATerm) { n.Exn = "e" },
		func(n *api.ATerm) { n.Rho = -1 },
		func(n *api.ATerm) { n.Rho = math.MinInt },
		func(n *api.ATerm) { n.Rhos = append(n.Rhos, -1) },
		func(n *api.ATerm) { n.Eff = append(n.Eff, api.Atom{}) },
		func(n *api.ATerm) { n.Eff = []api.Atom{put(1), get(1)} },
		func(n *api.ATerm) { n.Eff = []api.Atom{get(1), get(1)} },
		func(n *api.ATerm) { n.Eff = []api.Atom{exn("e")} },
		func(n *api.ATerm) { n.Type = api.RType{Kind: 5} },
		func(n *api.ATerm) { n.Type = refType(-1, intType()) },
		func(n *api.ATerm) { n.Res = api.RType{Kind: 2} },
		func(n *api.ATerm) { n.Res = fnType(0, intType(), intType(), put(1), get(1)) },
		func(n *api.ATerm) { n.Kids = append(n.Kids, num(1)) },
		func(n *api.ATerm) { n.Kids = append(n.Kids, api.ATerm{}, api.ATerm{}, api.ATerm{}) },
	}
	for i := range nodesOf(&x) {
		for k, s := range spoil {
			y := clone(x)
			s(nodesOf(&y)[i])
			holds(t, y)
			if _, _, at, e := check.Check(y); at != 0 || e != api.ErrArg {
				t.Fatalf("P15.1: node %d spoilt by %d: at %d, error %d", i, k, at, e)
			}
		}
	}
	wrong(t, api.ATerm{}, 0, api.ErrArg)
	wrong(t, in(1, 17, in(1, 17)), 0, api.ErrArg)
	itself := of(4)
	itself.Kids = []api.ATerm{{}}
	itself.Kids[0] = itself
	if _, _, at, e := check.Check(itself); at != 0 || e != api.ErrArg || len(check.Row(itself)) > 0 {
		t.Error("P0.1: a term that stands within itself")
	}
}

// TestNotApart has regions that are bound twice, wherever.
func TestNotApart(t *testing.T) {
	none := []int(nil)
	for _, x := range []api.ATerm{
		in(1, 17, at(7, in(1, 17, num(1)))),
		of(3, in(1, 17, num(1)), at(7, in(1, 17, num(1)))),
		of(3, rec(intType(), intType(), []int{3, 4}, num(1), num(1)), at(7, in(4, 17, num(1)))),
		in(4, 17, at(7, rec(intType(), intType(), []int{3, 4}, num(1), num(1)))),
		rec(intType(), intType(), []int{3}, at(7, in(3, 17, num(1))), num(1)),
		rec(intType(), intType(), []int{3}, num(1), at(7, in(3, 17, num(1)))),
		rec(intType(), intType(), []int{3}, num(1), at(7, rec(intType(), intType(), []int{2, 3}, num(1), in(2, 17, num(1))))),
		of(3, in(9, 3, name("y"), name("y")), of(3, in(1, 17, in(2, 17, num(1))), at(7, in(1, 17, at(8, in(2, 17, num(1))))))),
		fn("x", refType(5, intType()), of(3, in(1, 17, num(1)), at(7, in(1, 17, num(1))))),
	} {
		wrong(t, x, 7, api.ErrRegion)
	}
	// A region that is told, but not bound, may be told as often as one likes.
	right(t, in(1, 17, in(2, 17, rec(intType(), intType(), []int{3, 4}, num(1), of(10, inst([]int{1, 1}), num(2))))), "int", "get 0 , put 0")
	right(t, rec(intType(), intType(), none, num(1), of(10, inst(none), num(2))), "int", "get 0 , put 0")
}

// TestRow has rows of one exception, of several, and of none.
func TestRow(t *testing.T) {
	for _, c := range [][]string{
		{"1"},
		{"( raise E 1 : int )", "E"},
		{"( ( raise F 1 : int ) + ( ( raise E 1 : int ) + ( ( raise F 1 : int ) + ( raise E2 1 : int ) ) ) )", "E", "E2", "F"},
		{"( try ( ( raise F 1 : int ) + ( raise E 1 : int ) ) with F x => 1 )", "E"},
		{"( fn x : int ! exn E => ( raise E 1 : int ) @ 0 )"},
		{"( ( fn x : int ! exn E , exn F => ( raise E 1 : int ) @ 0 ) ( raise G 1 : int ) )", "E", "F", "G"},
		{"( ref 1 @ 0 )"},
		{"( ( raise E 1 : int ) , x @ 0 )"},
		{"( fst ( raise E 1 : int ) )"},
		{"( region 1 in ( raise E 1 : ( ref int @ 1 ) ) )"},
		{"( ( region 1 in ( raise E 1 : int ) ) , ( region 1 in 2 ) @ 0 )"},
	} {
		x := read(t, c[0])
		holds(t, x)
		if l := check.Row(x); !slices.Equal(l, c[1:]) {
			t.Errorf("P15.1: Row of %s = %s, want %s", c[0], l, c[1:])
		}
	}
}
