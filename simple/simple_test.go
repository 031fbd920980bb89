package simple_test

import (
	"fmt"
	"math"
	"math/rand"
	"reflect"
	"slices"
	"strings"
	"testing"

	"enclave/api"
	"enclave/simple"
	"enclave/types"
)

// holds holds what Check answers of a term that may be against the chapter. It stops at the first fault: where many terms are gone through, more of them tell nothing new.
func holds(t *testing.T, x api.Term) api.Errno {
	t.Helper()
	want, wantAt, wantE := checkOf(x)
	got, at, e := simple.Check(x)
	if whole(got) != whole(want) || at != wantAt || e != wantE {
		t.Fatalf("P10.1: Check of %v = %s %d %d, want %s %d %d", x, whole(got), at, e, whole(want), wantAt, wantE)
	}
	if e == api.OK && !fits(got) {
		t.Fatalf("P10.2: Check of %v = %s, which doesn't fit", x, whole(got))
	}
	return e
}

// fails holds that Check answers an error, and nothing besides.
func fails(t *testing.T, about string, x api.Term, at int, e api.Errno) {
	t.Helper()
	got, gotAt, gotE := simple.Check(x)
	if whole(got) != whole(api.Typed{}) || gotAt != at || gotE != e {
		t.Errorf("P10.1, P0.2: Check of %s = %.300s %d %d, want the zero value, %d and %d", about, whole(got), gotAt, gotE, at, e)
	}
}

// typable is what Check answers of a term that types fit.
func typable(t *testing.T, about string, x api.Term) api.Typed {
	t.Helper()
	got, at, e := simple.Check(x)
	if at != 0 || e != api.OK {
		t.Fatalf("P10.1: Check of %s = %d %d, want 0 and OK", about, at, e)
	}
	return got
}

// TestTables has what the chapters' tables tell, told once more by hand.
func TestTables(t *testing.T) {
	var l []string
	for _, r := range kindRows {
		l = append(l, fmt.Sprintf("%s %d %v %d: %s", r.name, r.kind, r.fields, r.kids, strings.Join(r.holds, "; ")))
	}
	want := []string{
		"KNum 1 [N] 0: T is int",
		"KVar 2 [Name] 0: T is the type of the name that is bound there",
		"KPair 3 [] 2: T is ( A * B )",
		"KFst 4 [] 1: A is the type of pairs whose first part is T",
		"KSnd 5 [] 1: A is the type of pairs whose second part is T",
		"KRef 6 [] 1: T is ref A",
		"KGet 7 [] 1: A is ref T",
		"KSet 8 [] 2: A is ref B; T is int",
		"KOp 9 [Op] 2: A, B and T are int",
		"KApp 10 [] 2: A is B -> T",
		"KFn 11 [Arg] 1: T is of a function from Arg's type to A",
		"KLet 12 [Name] 2: Name's type is A; T is B",
		"KLetrec 13 [Name Arg] 2: Name's type is of a function from Arg's type to A; T is B",
		"KIf 14 [] 3: A is int; B and C are T",
		"KRaise 15 [Exn] 1: A is int",
		"KTry 16 [Arg Exn] 2: A and B are T; Arg's type is int",
	}
	if !slices.Equal(l, want) {
		t.Errorf("the tables are read as %q", l)
	}
}

// TestTypes has texts, and what is told of them as a whole.
func TestTypes(t *testing.T) {
	for s, want := range map[string]string{
		"1": "int", "fn x => x": "int -> int", "fst ( 1 , 2 )": "int", "( 1 , 2 )": "( int * int )", "raise E 3": "int", "try raise E 3 with E x => x + 1": "int", "letrec f x = f x in f 1": "int", "! ref ( fst ( 1 , 2 ) )": "int", "let a = ( 1 , 2 ) in fn x => fst a": "int -> int",
		"fst ( 1 , ref 2 )": "int", "snd ( 1 , ref 2 )": "ref int", "fst ( ref 1 , 2 )": "ref int", "ref 1": "ref int", "! ref ref 1": "ref int", "ref ref 1 := ref 2": "int", "ref ( 1 , 2 )": "ref ( int * int )",
		"1 + 2": "int", "1 - 2": "int", "1 * 2": "int", "1 < 2": "int", "1 = 2": "int", "( fn x => ( x , 1 ) ) ( ref 2 )": "( ref int * int )",
		"fn x => fn y => ( y , x )": "int -> int -> ( int * int )", "fn x => ! x": "ref int -> int", "fn x => fst x": "( int * int ) -> int", "fn x => snd fst x": "( ( int * int ) * int ) -> int", "fn x => x 1": "( int -> int ) -> int", "fn x => fn y => x y": "( int -> int ) -> int -> int", "fn x => fn y => x := y": "ref int -> int -> int", "fn x => x + 1": "int -> int", "fn x => raise E x": "int -> int", "fn x => if x then 1 else 2": "int -> int",
		"fn x => fn x => fst x": "int -> ( int * int ) -> int", "let x = ref 1 in let x = ( x , x ) in x": "( ref int * ref int )", "let x = 1 in ( let x = ref x in x , x )": "( ref int * int )",
		"fn f => fn g => fn x => f ( g x )": "( int -> int ) -> ( int -> int ) -> int -> int", "fn x => fn y => fn z => x z ( y z )": "( int -> int -> int ) -> ( int -> int ) -> int -> int",
		"fn x => if 1 then x else ( 1 , ref 2 )": "( int * ref int ) -> ( int * ref int )", "if 1 then fn x => x else fn y => y + 1": "int -> int", "if 1 then raise E 2 else ref 3": "ref int", "if 1 then ref 3 else raise E 2": "ref int",
		"try ref 1 with E x => ref x": "ref int", "try raise E 1 with E x => ( x , 1 )": "( int * int )", "try fn x => x with E x => fn y => ref x": "ref int -> ref int", "fn y => try y with E y => ref y": "ref int -> ref int",
		"letrec f x = f in 1": "", "letrec f x = ( x , f x ) in f": "", "letrec f x = x in f": "int -> int", "letrec f x = x in f ( ref 1 )": "ref int", "letrec f x = f ( x + 1 ) in f": "int -> int", "letrec f x = fn y => f y x in f": "int -> int -> int", "letrec f x = if x < 2 then 1 else x * f ( x - 1 ) in f 10": "int", "letrec f f = f + 1 in f": "int -> int", "letrec x x = x in x ( ref 1 )": "ref int", "let f = 1 in letrec f x = x in f f": "", "letrec f x = 1 in let f = ref f in f": "ref ( int -> int )",
		"fn x => letrec f y = ( x , y ) in f": "int -> int -> ( int * int )", "fn x => letrec f y = if y then x else f ( y - 1 ) in f 1 + 1": "int -> int", "( fn f => f ( f 1 ) ) ( fn x => x + 1 )": "int", "let r = ref ( fn x => x ) in let u = r := ( fn x => ( x , 1 ) ) in r": "",
		"let i = fn x => x in i i": "", "let i = fn x => x in ( i 1 , i 2 )": "( int * int )", "let i = fn x => x in ( i 1 , i ( ref 2 ) )": "", "fn f => ( f 1 , f ( ref 2 ) )": "", "( fn x => x ) ( fn x => x )": "int -> int",
	} {
		y, at, e := simple.Check(read(t, s))
		got, _ := types.Text(y.Type)
		if want == "" && (e != api.ErrType || y.Kind != 0) || want != "" && (e != api.OK || at != 0 || got != want) {
			t.Errorf("P10.1: Check of %s = %s %d %d, want %q", s, got, at, e, want)
		}
	}
}

// TestPlacesOfErrors has texts, and where what is wrong with them is told.
func TestPlacesOfErrors(t *testing.T) {
	for _, c := range []struct {
		s  string
		at int
		e  api.Errno
	}{
		{"1 2", 0, api.ErrType}, {"fn x => y", 8, api.ErrScope}, {"x", 0, api.ErrScope}, {" x", 1, api.ErrScope}, {"1 + x", 4, api.ErrScope}, {"x + y", 0, api.ErrScope},
		{"fst 1", 0, api.ErrType}, {"snd 1", 0, api.ErrType}, {"! 1", 0, api.ErrType}, {"raise E ref 1", 0, api.ErrType}, {"1 := 2", 0, api.ErrType}, {"ref 1 := ref 2", 0, api.ErrType}, {"1 + ref 2", 0, api.ErrType}, {"ref 1 = 2", 0, api.ErrType}, {"( fn x => x + 1 ) ( ref 2 )", 2, api.ErrType}, {"fst ref 1", 0, api.ErrType}, {"! ( 1 , 2 )", 0, api.ErrType}, {"( 1 , 2 ) 3", 0, api.ErrType},
		{"if ref 1 then 2 else 3", 0, api.ErrType}, {"if 1 then 2 else ref 3", 0, api.ErrType}, {"if 1 then ref 2 else 3", 0, api.ErrType}, {"try 1 with E x => ref x", 0, api.ErrType}, {"try ref 1 with E x => x", 0, api.ErrType}, {"try 1 with E x => ! x", 18, api.ErrType}, {"try x with E x => x", 4, api.ErrScope},
		// All kids are gone through ahead of what holds with the node.
		{"if ref 1 then fst 2 else 3", 14, api.ErrType}, {"if ref 1 then 2 else snd 3", 21, api.ErrType}, {"1 + ref 2 + fst 3", 0, api.ErrType}, {"( 1 + ref 2 , fst 3 )", 2, api.ErrType}, {"1 := fst 2", 5, api.ErrType}, {"1 ( fst 2 )", 4, api.ErrType}, {"try ref 1 with E x => fst x", 22, api.ErrType}, {"( fst 1 , fst 2 )", 2, api.ErrType}, {"let x = ref 1 in x + fst x", 21, api.ErrType}, {"raise E ref fst 1", 12, api.ErrType},
		// A name's type is asked from the kid on in which it is bound.
		{"let x = 1 in fst x", 13, api.ErrType}, {"let x = fst 1 in fst x", 8, api.ErrType}, {"fn x => ( x + 1 , fst x )", 18, api.ErrType}, {"fn x => ( fst x , x + 1 )", 18, api.ErrType}, {"fn x => x x", 8, api.ErrType}, {"fn x => x := x", 8, api.ErrType}, {"fn x => if 1 then x else ref x", 8, api.ErrType},
		{"letrec f x = f + 1 in f", 13, api.ErrType}, {"letrec f x = fst f in f", 13, api.ErrType}, {"letrec f x = f f in f", 13, api.ErrType}, {"letrec f x = f ( x , x ) in f", 13, api.ErrType}, {"letrec f x = ( f 1 , fst x ) in f", 21, api.ErrType}, {"letrec f x = 1 in f + 1", 18, api.ErrType}, {"letrec f x = x + 1 in f ( ref 1 )", 22, api.ErrType}, {"letrec f x = f in f", 0, api.ErrType}, {"letrec f x = ( f x , 1 ) in f", 0, api.ErrType},
		// What its function answers is asked with the KLetrec, behind its second kid.
		{"letrec f x = ( 1 , 2 ) in f 1 + 1", 0, api.ErrType}, {"letrec f x = 1 in fst ( f 1 )", 0, api.ErrType}, {"letrec f x = ( 1 , 2 ) in fst ( f 1 + 1 )", 26, api.ErrType}, {"letrec f x = ref ( f 1 ) in ( f 1 + 1 , fst ( f 1 ) )", 40, api.ErrType}, {"1 + ( letrec f x = 1 in fst ( f 1 ) )", 6, api.ErrType}, {"letrec f x = fn y => 1 in f 1 + 2", 0, api.ErrType}, {"letrec f x = f x + 1 in fst ( f 1 )", 24, api.ErrType},
		// A name that is free goes ahead of types that don't fit, wherever it stands.
		{"( fst 1 , x )", 10, api.ErrScope}, {"let x = fst 1 in y", 17, api.ErrScope}, {"( 1 2 ) x", 8, api.ErrScope}, {"( y , fst 1 x )", 2, api.ErrScope}, {"letrec f x = x in x", 18, api.ErrScope}, {"let x = x in x", 8, api.ErrScope}, {"( fn x => x ) x", 14, api.ErrScope},
		{"try raise E 1 with F x => raise G x", 0, api.OK}, {"fn x => try raise E x with F y => raise G z", 42, api.ErrScope},
	} {
		got, at, e := simple.Check(read(t, c.s))
		if at != c.at || e != c.e || (e == api.OK) != (got.Kind != 0) {
			t.Errorf("P10.1: Check of %s = %d %d, want %d %d", c.s, at, e, c.at, c.e)
		}
	}
}

// TestNodes has the types of all nodes of a term, and of its function.
func TestNodes(t *testing.T) {
	got := typable(t, "all nodes", read(t, "letrec f x = let y = ref x in if ! y < 1 then ( x , y ) else f ( x - 1 ) in fst ( f 3 )"))
	i, r := "int", "[3 0 int ]"
	p := "[2 0 int " + r + " ]"
	f := "[4 0 int " + p + " ]"
	x := func(at int, s, is string) string { return fmt.Sprintf(`{2 0 %d 0 %q "" "" : %s}`, at, s, is) }
	n := func(at, n int) string { return fmt.Sprintf(`{1 0 %d %d "" "" "" : int}`, at, n) }
	less := fmt.Sprintf(`{9 4 33 0 "" "" "" : int {7 0 33 0 "" "" "" : int %s} %s}`, x(35, "y", r), n(39, 1))
	both := fmt.Sprintf(`{3 0 46 0 "" "" "" : %s %s %s}`, p, x(48, "x", i), x(52, "y", r))
	call := fmt.Sprintf(`{10 0 61 0 "" "" "" : %s %s {9 2 65 0 "" "" "" : int %s %s}}`, p, x(61, "f", f), x(65, "x", i), n(69, 1))
	body := fmt.Sprintf(`{12 0 13 0 "y" "" "" : %s {6 0 21 0 "" "" "" : %s %s} {14 0 30 0 "" "" "" : %s %s %s %s}}`, p, r, x(25, "x", i), p, less, both, call)
	want := fmt.Sprintf(`{13 0 0 0 "f" "x" "" : int : %s %s {4 0 76 0 "" "" "" : int {10 0 82 0 "" "" "" : %s %s %s}}}`, f, body, p, x(82, "f", f), n(84, 3))
	if whole(got) != want {
		t.Errorf("P10.1: Check = %s, want %s", whole(got), want)
	}
}

// TestAllSmallTerms has names that are free, too; one node more, if none is.
func TestAllSmallTerms(t *testing.T) {
	for _, l := range smallTerms(4, kindRows, []string{"x", "f"}) {
		for _, x := range l {
			holds(t, scattered(x))
		}
	}
	for _, l := range smallTerms(5, kindRows, []string{"x"}) {
		for _, x := range l {
			holds(t, scattered(x))
		}
	}
	rows := slices.DeleteFunc(slices.Clone(kindRows), func(r kindRow) bool {
		return !slices.Contains([]uint8{2, 10, 11, 12, 13}, r.kind)
	})
	for _, l := range smallTerms(6, rows, []string{"x", "f"}) {
		for _, x := range l {
			if isClosed(x) {
				holds(t, scattered(x))
			}
		}
	}
}

func TestGrownTerms(t *testing.T) {
	g := grower{rand.New(rand.NewSource(10))}
	for range 2500 {
		x := g.grow(nil, g.typ(1+g.Intn(5)), 1+g.Intn(40))
		if e := holds(t, scattered(x)); e != api.OK && e != api.ErrLong {
			t.Fatalf("not grown well: %v %d", x, e)
		}
		for range 3 {
			x = g.spoil(x)
			holds(t, scattered(x))
		}
	}
	for range 30 {
		holds(t, scattered(g.grow(nil, g.typ(9), 400)))
	}
}

// TestOperations are typed alike, and stay what they are.
func TestOperations(t *testing.T) {
	for op := api.OpAdd; op <= api.OpSame; op++ {
		x := func(a, b api.Term) api.Term { return node(api.Head{Kind: 9, Op: op, At: 3}, a, b) }
		got := typable(t, "an operation", x(number(), number()))
		if got.Op != op || text(got.Type) != "int" {
			t.Errorf("P10.1: the operation %d: %s", op, whole(got))
		}
		for _, bad := range []api.Term{term(6, number()), term(3, number(), number()), node(api.Head{Kind: 11, Arg: "x"}, number())} {
			fails(t, "an operation", x(bad, number()), 3, api.ErrType)
			fails(t, "an operation", x(number(), bad), 3, api.ErrType)
			fails(t, "an operation", x(bad, bad), 3, api.ErrType)
		}
		fails(t, "what is told of an operation", term(4, x(number(), number())), 0, api.ErrType)
	}
}

// TestFirstNodeNotFirstPlace has nodes whose places don't grow.
func TestFirstNodeNotFirstPlace(t *testing.T) {
	at := func(at int, x api.Term) api.Term {
		x.At = at
		return x
	}
	bad := func(place int) api.Term { return at(place, term(4, number())) }
	long := func(place int) api.Term { return at(place, nested(6, 500, number())) }
	for _, c := range []struct {
		x  api.Term
		at int
		e  api.Errno
	}{
		{term(3, at(90, name("x")), at(3, name("y"))), 90, api.ErrScope},
		{term(3, at(3, name("y")), at(90, name("x"))), 3, api.ErrScope},
		{term(3, bad(1), at(90, name("x"))), 90, api.ErrScope},
		{at(1, term(3, at(50, term(6, at(40, name("x")))), at(2, name("x")))), 40, api.ErrScope},
		{at(1, term(3, bad(70), bad(5))), 70, api.ErrType},
		{at(1, term(3, bad(5), bad(70))), 5, api.ErrType},
		{at(1, term(4, bad(70))), 70, api.ErrType},
		{at(90, term(4, bad(70))), 70, api.ErrType},
		{at(1, term(14, number(), bad(math.MaxInt), bad(2))), math.MaxInt, api.ErrType},
		{at(1, term(9)), 0, api.ErrArg},
		{at(1, term(4, term(3, long(60), long(50)))), 1, api.ErrLong},
		{at(1, term(4, at(40, term(3, number(), long(50))))), 40, api.ErrLong},
		{at(1, term(14, number(), term(4, at(80, term(3, number(), long(60)))), number())), 80, api.ErrLong},
		{node(api.Head{Kind: 12, Name: "x", At: 1}, long(60), number()), 60, api.ErrLong},
		{node(api.Head{Kind: 12, Name: "x", At: 1}, long(6), node(api.Head{Kind: 12, Name: "x"}, long(5), number())), 6, api.ErrLong},
		{node(api.Head{Kind: 12, Name: "x", At: 100}, long(60), at(50, name("x"))), 100, api.ErrLong},
		{node(api.Head{Kind: 12, Name: "x", At: 100}, long(60), bad(70)), 70, api.ErrType},
		{node(api.Head{Kind: 12, Name: "x", At: 100}, long(60), at(7, name("y"))), 7, api.ErrScope},
	} {
		fails(t, fmt.Sprint(whole(api.Typed{Head: c.x.Head}), " want ", c.at), c.x, c.at, c.e)
	}
}

// TestManyExceptions has more of them than a program may declare: Check asks nothing of them.
func TestManyExceptions(t *testing.T) {
	for _, n := range []int{1, 2, 63, 64, 65, 66, 1300} {
		x, y := number(), name("x")
		y.At = 9999
		for i := range n {
			h := api.Head{Kind: 15, Exn: fmt.Sprint("E", i), At: i}
			x, y = node(h, x), node(h, y)
		}
		if got := typable(t, "many exceptions", x); text(got.Type) != "int" || got.Exn != x.Exn || got.At != n-1 {
			t.Error("P10.1: of many exceptions", n, whole(api.Typed{Head: got.Head, Type: got.Type}))
		}
		fails(t, "many exceptions and a free name", y, 9999, api.ErrScope)
		got := typable(t, "many exceptions and a bound name", node(api.Head{Kind: 16, Exn: "G", Arg: "x"}, number(), y))
		if text(got.Type) != "int" || got.Exn != "G" || got.Kids[1].Exn != x.Exn {
			t.Error("P10.1: of many exceptions and a bound name", n)
		}
		fails(t, "many exceptions and what doesn't fit", node(api.Head{Kind: 16, Exn: "G", Arg: "x", At: 8888}, term(6, number()), sum(y, number())), 8888, api.ErrType)
	}
}

// wrong are terms that may not be, each with a name that is free and types that don't fit in it, as far as that can be.
func wrong() []api.Term {
	bad := term(4, name("x"))
	l := []api.Term{
		{}, term(0), term(17, bad), term(18, bad), term(255, bad, bad),
		term(3), term(3, bad), term(3, bad, bad, bad), term(10, bad), term(14, bad, bad), term(4), term(4, bad, bad), term(8, bad),
		term(2), node(api.Head{Kind: 2, Name: "in"}), node(api.Head{Kind: 2, Name: "X"}), node(api.Head{Kind: 2, Name: "x", Exn: "E"}), node(api.Head{Kind: 2, Name: "x"}, bad), node(api.Head{Kind: 2, Name: "x", At: -1}),
		node(api.Head{Kind: 1, N: -1}), node(api.Head{Kind: 1, N: 1 << 31}), node(api.Head{Kind: 1, Name: "x"}), node(api.Head{Kind: 1, Exn: "E"}), node(api.Head{Kind: 1, At: math.MinInt}), node(api.Head{Kind: 9}, bad, bad), node(api.Head{Kind: 9, Op: 6}, bad, bad),
		node(api.Head{Kind: 11}, bad), node(api.Head{Kind: 11, Arg: "E"}, bad), node(api.Head{Kind: 11, Arg: "x"}), node(api.Head{Kind: 11, Arg: "x"}, bad, bad),
		node(api.Head{Kind: 12}, bad, bad), node(api.Head{Kind: 12, Name: "y"}, bad), node(api.Head{Kind: 12, Name: "y", Arg: "y"}, bad, bad),
		node(api.Head{Kind: 13, Name: "f"}, bad, bad), node(api.Head{Kind: 13, Arg: "f"}, bad, bad), node(api.Head{Kind: 13, Name: "f", Arg: "y"}, bad),
		node(api.Head{Kind: 15}, bad), node(api.Head{Kind: 15, Exn: "e"}, number()), node(api.Head{Kind: 15, Exn: "E "}, number()), node(api.Head{Kind: 15, Exn: "E"}), node(api.Head{Kind: 15, Exn: "E"}, bad, bad),
		node(api.Head{Kind: 16, Exn: "E"}, bad, bad), node(api.Head{Kind: 16, Arg: "y"}, bad, bad), node(api.Head{Kind: 16, Exn: "e", Arg: "y"}, number(), number()), node(api.Head{Kind: 16, Exn: "E", Arg: "y"}, bad), node(api.Head{Kind: 16, Exn: "E", Arg: "y"}),
	}
	ring := make([]api.Term, 1)
	ring[0] = node(api.Head{Kind: 11, Arg: "y"})
	ring[0].Kids = ring
	return append(l, nested(4, api.MaxNodes, number()), nested(6, api.MaxNodes, number()), nested(6, api.MaxNodes, name("x")), ring[0])
}

func TestWhatMayNotBe(t *testing.T) {
	for i, x := range wrong() {
		about := fmt.Sprint("the wrong term ", i)
		for _, at := range []int{0, 5} {
			if x.At == 0 {
				x.At = at
			}
			fails(t, about, x, 0, api.ErrArg)
			fails(t, about, term(3, name("x"), x), 0, api.ErrArg)
			fails(t, about, term(3, x, name("x")), 0, api.ErrArg)
			fails(t, about, term(3, term(4, number()), x), 0, api.ErrArg)
			fails(t, about, node(api.Head{Kind: 11, Arg: "x", At: 7}, node(api.Head{Kind: 15, Exn: "G", At: 6}, x)), 0, api.ErrArg)
		}
	}
}

// nested is n nodes of a kind, each the last kid of the next one, around a term; their other kids are numbers.
func nested(kind uint8, n int, x api.Term) api.Term {
	r := rowOf(kind)
	h := r.heads([]string{"x"})[0]
	for range n {
		kids := slices.Repeat([]api.Term{number()}, r.kids)
		kids[r.kids-1] = x
		x = node(h, kids...)
	}
	return x
}

// refs is a term whose type has just n nodes.
func refs(n int) api.Term { return nested(6, n-1, number()) }

// TestMaxType has types of just so many nodes as there may be, and of one more.
func TestMaxType(t *testing.T) {
	if api.MaxType != 500 {
		t.Error("P10.1: MaxType", api.MaxType)
	}
	let := func(name string, a, b api.Term) api.Term {
		return node(api.Head{Kind: 12, Name: name, At: 1}, a, b)
	}
	letrec := func(a, b api.Term) api.Term {
		return node(api.Head{Kind: 13, Name: "f", Arg: "x", At: 2}, a, b)
	}
	at := func(x api.Term) api.Term {
		x.At = 3
		return x
	}
	fnOf := func(arg string, a api.Term) api.Term { return node(api.Head{Kind: 11, Arg: arg}, a) }
	for _, c := range []struct {
		about string
		of    func(n int) api.Term // a term whose greatest type has n nodes
		at    int                  // where that is
	}{
		{"refs", func(n int) api.Term { return at(refs(n)) }, 3},
		{"a pair", func(n int) api.Term { return at(term(3, refs(n-2), number())) }, 3},
		{"another pair", func(n int) api.Term { return at(term(3, number(), refs(n-2))) }, 3},
		{"a pair of both", func(n int) api.Term { return at(term(3, refs(n-251), refs(250))) }, 3},
		{"a function's answer", func(n int) api.Term { return at(fnOf("x", refs(n-2))) }, 3},
		{"what a function takes", func(n int) api.Term {
			return at(fnOf("x", let("u", term(14, number(), name("x"), refs(n-2)), number())))
		}, 3},
		{"within fst", func(n int) api.Term { return term(4, at(term(3, number(), refs(n-2)))) }, 3},
		{"a let's first kid", func(n int) api.Term { return let("y", at(refs(n)), number()) }, 3},
		{"a let's second kid", func(n int) api.Term { return let("y", number(), at(refs(n))) }, 1},
		{"a function that is called", func(n int) api.Term { return term(10, at(fnOf("x", number())), refs(n-2)) }, 3},
		{"around what is tried", func(n int) api.Term {
			return term(4, at(term(3, number(), node(api.Head{Kind: 16, Exn: "E", Arg: "x"}, refs(n-2), refs(n-2)))))
		}, 3},
		{"letrec's function, by its body", func(n int) api.Term { return letrec(refs(n-2), number()) }, 2},
		{"letrec's function, by what it takes", func(n int) api.Term { return letrec(number(), term(10, name("f"), refs(n-2))) }, 2},
		{"letrec's function, by both", func(n int) api.Term {
			return letrec(refs(100), let("y", term(10, name("f"), refs(n-101)), number()))
		}, 2},
		{"letrec's function, within", func(n int) api.Term { return let("y", number(), letrec(refs(n-2), number())) }, 2},
		{"a letrec in a letrec's body", func(n int) api.Term { return letrec(sum(number(), number()), letrec(refs(n-2), number())) }, 2},
	} {
		for _, n := range []int{499, 500, 501, 700} {
			x := c.of(n)
			if n > 500 {
				fails(t, c.about, x, c.at, api.ErrLong)
				continue
			}
			got := typable(t, c.about, x)
			if greatest(got) != n || n == 500 && !fits(got) {
				t.Errorf("P10.2: %s: the greatest type has %d nodes, want %d", c.about, greatest(got), n)
			}
		}
	}
}

// sum is an operation.
func sum(a, b api.Term) api.Term { return node(api.Head{Kind: 9, Op: 1}, a, b) }

// greatest is how many nodes the greatest of all types has.
func greatest(y api.Typed) int {
	n := max(size(y.Type), size(y.Bind))
	for _, k := range y.Kids {
		n = max(n, greatest(k))
	}
	return n
}

// TestTypesThatDouble has types with more nodes than anybody can go through.
func TestTypesThatDouble(t *testing.T) {
	const double = "let a = ( a , a ) in "
	for n := range 12 { // of 2^(n+1)-1 nodes
		s := "let a = 1 in " + strings.Repeat(double, n) + "a"
		if n < 8 {
			if got := typable(t, s, read(t, s)); size(got.Type) != 1<<(n+1)-1 {
				t.Errorf("P10.1: %d times doubled: %d nodes", n, size(got.Type))
			}
			continue
		}
		fails(t, s, read(t, s), 0, api.ErrLong)
		fails(t, "a part of "+s, read(t, s[:len(s)-1]+"1"), len("let a = 1 in ")+7*len(double)+len("let a = "), api.ErrLong)
	}
	for _, n := range []int{30, 62, 63, 64, 300} {
		s := "let a = 1 in " + strings.Repeat(double, n)
		fails(t, "many doubled", read(t, s+"a"), 0, api.ErrLong)
		fails(t, "many doubled, and one wrong", read(t, s+"fst 1"), len(s), api.ErrType)
		fails(t, "many doubled, and one free", read(t, s+"b"), len(s), api.ErrScope)
		towers := "fn a => fn b => let x = " + strings.Repeat(double, n/2) + "a in let y = " + strings.Repeat(strings.ReplaceAll(double, "a ", "b "), n/2) + "b in let u = if 1 then x else y in "
		fails(t, "two towers that are the same", read(t, towers+"1"), len("fn a => fn b => let x = "), api.ErrLong)
		fails(t, "two towers that can't be the same", read(t, towers+"if 1 then a else ( b , 1 )"), len(towers), api.ErrType)
	}
}

// TestMostNodes has terms of all kinds with as many nodes as there may be, one in the other.
func TestMostNodes(t *testing.T) {
	id := node(api.Head{Kind: 11, Arg: "x"}, name("x"))
	for about, x := range map[string]api.Term{
		"raise":  nested(15, 3999, number()),
		"+":      nested(9, 1999, number()),
		"if":     nested(14, 1333, number()),
		"try":    nested(16, 1999, number()),
		"let":    nested(12, 1999, number()),
		"letrec": nested(13, 1999, number()),
		"calls":  calls(id, 1333),
		"! ref":  around(1999, func(x api.Term) api.Term { return term(7, term(6, x)) }),
		"fst":    around(1333, func(x api.Term) api.Term { return term(4, term(3, x, number())) }),
		"snd":    around(1333, func(x api.Term) api.Term { return term(5, term(3, number(), x)) }),
		":=":     around(1333, func(x api.Term) api.Term { return term(8, term(6, number()), x) }),
		"let's first kid": around(1999, func(x api.Term) api.Term {
			return node(api.Head{Kind: 12, Name: "x"}, x, name("x"))
		}),
		"letrec's first kid": around(1999, func(x api.Term) api.Term {
			return node(api.Head{Kind: 13, Name: "f", Arg: "x"}, x, number())
		}),
	} {
		got := typable(t, about, x)
		if text(got.Type) != "int" || whole(api.Typed{Head: got.Head}) != whole(api.Typed{Head: x.Head}) || !reflect.DeepEqual(simple.Erase(got), x) {
			t.Errorf("P10.1: of the most nodes, %s: %s", about, text(got.Type))
		}
		if !simple.Same(got, typable(t, about, x)) {
			t.Errorf("P10.1: Same of the most nodes, %s", about)
		}
	}
	for _, n := range []int{1, 2, 100, 1332} {
		deep := nested(15, n, node(api.Head{Kind: 15, Exn: "E", At: 77}, term(6, number())))
		fails(t, "deep within", deep, 77, api.ErrType)
	}
	fails(t, "ref", refs(4000), 0, api.ErrLong)
	fails(t, "fn", nested(11, 3999, name("x")), 0, api.ErrLong)
	fails(t, "pairs", nested(3, 1999, number()), 0, api.ErrLong)
	fails(t, "!", node(api.Head{Kind: 11, Arg: "x", At: 6}, nested(7, 3998, name("x"))), 6, api.ErrLong)
	fails(t, "fst", node(api.Head{Kind: 11, Arg: "x", At: 6}, nested(4, 3998, name("x"))), 6, api.ErrLong)
}

// around is a number with n terms put around it.
func around(n int, put func(x api.Term) api.Term) api.Term {
	x := number()
	for range n {
		x = put(x)
	}
	return x
}

// calls is n calls of a function, one in the other.
func calls(f api.Term, n int) api.Term {
	return around(n, func(x api.Term) api.Term { return term(10, f, x) })
}

// TestManyNames has as many names bound, each of a type of its own.
func TestManyNames(t *testing.T) {
	const n = 300
	s := ""
	for i := range n {
		s += fmt.Sprintf("let x%d = %s 1 in ", i, strings.Repeat("ref ", i%7))
	}
	for i := 0; i < n; i += 13 {
		x := read(t, fmt.Sprintf("%s x%d", s, i))
		got := typable(t, s, x)
		if size(got.Type) != 1+i%7 {
			t.Errorf("P10.1: the name %d of %d: %s", i, n, text(got.Type))
		}
	}
	fails(t, s, read(t, s+"x300"), len(s), api.ErrScope)
	deep := name("x0")
	for i := range 249 {
		deep = node(api.Head{Kind: 11, Arg: fmt.Sprint("x", i%100)}, deep)
	}
	if got := typable(t, "functions of functions", deep); size(got.Type) != 2*249+1 {
		t.Error("P10.1: functions of functions", size(got.Type))
	}
}
