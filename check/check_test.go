package check_test

import (
	"reflect"
	"slices"
	"testing"

	"enclave/api"
	"enclave/check"
	"enclave/display"
	"enclave/effect"
	"enclave/rtype"
)

// shown is a term as a fault tells it.
func shown(x api.ATerm) string {
	s, e := display.Term(x)
	if e != api.OK {
		s = whole(x)
	}
	return s
}

// holds holds what is answered of a term against the chapter, and tells the error. It stops at the first fault: where many terms are gone through, more of them tell nothing new.
func holds(t *testing.T, x api.ATerm) api.Errno {
	t.Helper()
	wantType, wantEff, wantAt, want := checkOf(x)
	y, may, at, e := check.Check(x)
	if at != wantAt || e != want {
		t.Fatalf("P15.1: Check of %.600s at %d, error %d, want %d, %d", shown(x), at, e, wantAt, want)
	}
	row := check.Row(x)
	if e != api.OK {
		if !reflect.DeepEqual(y, api.RType{}) || len(may) > 0 || len(row) > 0 {
			t.Fatalf("P0.2: beside error %d of %.600s there is %s, %s, %s", e, shown(x), typeText(y), setOf(may...).text(), row)
		}
		return e
	}
	if typeText(y) != wantType || setOf(may...).text() != wantEff {
		t.Fatalf("P15.1: Check of %.600s = %.300s, %.300s, want %.300s, %.300s", shown(x), typeText(y), setOf(may...).text(), wantType, wantEff)
	}
	if !rtype.May(y) || !effect.May(may) || len(typeNodes(y)) > 500 {
		t.Fatalf("P15.1: of %.600s the type, or the effect, may not be: %.300s, %.300s", shown(x), typeText(y), effect.Text(may))
	}
	if exns := exnsOf(may); !slices.Equal(row, exns) {
		t.Fatalf("P15.1: Row of %.600s = %s, want %s", shown(x), row, exns)
	}
	for _, r := range append(typeRhos(y), effRhos(may)...) {
		if r != 0 {
			t.Fatalf("P15.2: of %.600s: %.300s, %.300s", shown(x), typeText(y), effect.Text(may))
		}
	}
	return e
}

// exnsOf are the exceptions of an effect.
func exnsOf(e []api.Atom) []string {
	var l []string
	for _, a := range e {
		if a.Kind == 3 {
			l = append(l, a.Exn)
		}
	}
	slices.Sort(l)
	return l
}

// right holds that a term has a type, and an effect.
func right(t *testing.T, x api.ATerm, typ, eff string) {
	t.Helper()
	if e := holds(t, x); e != api.OK {
		t.Errorf("P15.1: Check of %.600s: error %d", shown(x), e)
		return
	}
	y, may, _, _ := check.Check(x)
	if s, _ := rtype.Text(y); s != typ || effect.Text(may) != eff {
		t.Errorf("P15.1: Check of %.600s = %.300s, %.300s, want %.300s, %.300s", shown(x), s, effect.Text(may), typ, eff)
	}
}

// wrong holds that a term has an error at a place.
func wrong(t *testing.T, x api.ATerm, at int, e api.Errno) {
	t.Helper()
	holds(t, x)
	if _, _, gotAt, got := check.Check(x); gotAt != at || got != e {
		t.Errorf("P15.1: Check of %.600s at %d, error %d, want %d, %d", shown(x), gotAt, got, at, e)
	}
}

func TestExamples(t *testing.T) {
	right(t, read(t, "( fst ( 1 , 2 @ 0 ) )"), "int", "get 0 , put 0")
	right(t, read(t, "( region 1 in ( fst ( 1 , 2 @ 1 ) ) )"), "int", "none")
}

func TestRight(t *testing.T) {
	for _, c := range [][3]string{
		{"0", "int", "none"},
		{"2147483647", "int", "none"},
		{"( 1 , 2 @ 0 )", "( int * int @ 0 )", "put 0"},
		{"( region 5 in ( snd ( 1 , ( 2 , 3 @ 0 ) @ 5 ) ) )", "( int * int @ 0 )", "put 0"},
		{"( ref ( ref 1 @ 0 ) @ 0 )", "( ref ( ref int @ 0 ) @ 0 )", "put 0"},
		{"( ! ( ref ( 1 , 2 @ 0 ) @ 0 ) )", "( int * int @ 0 )", "get 0 , put 0"},
		{"( region 3 in ( ! ( ref ( 1 , 2 @ 0 ) @ 3 ) ) )", "( int * int @ 0 )", "put 0"},
		{"( ( ref 1 @ 0 ) := 2 )", "int", "put 0"},
		{"( region 2 in ( ( ref ( 1 , 1 @ 0 ) @ 2 ) := ( 2 , 2 @ 0 ) ) )", "int", "put 0"},
		{"( 1 + ( 2 * ( 3 < ( 4 = ( 5 - 6 ) ) ) ) )", "int", "none"},
		{"( fn x : int ! none => x @ 0 )", "( int -> int ! none @ 0 )", "put 0"},
		{"( fn x : int ! get 0 , put 0 , exn E => x @ 0 )", "( int -> int ! get 0 , put 0 , exn E @ 0 )", "put 0"},
		{"( ( fn x : int ! put 0 , exn E => ( x , x @ 0 ) @ 0 ) 1 )", "( int * int @ 0 )", "get 0 , put 0 , exn E"},
		{"( region 1 in ( ( fn x : ( ref int @ 1 ) ! get 1 => ( ! x ) @ 1 ) ( ref 1 @ 1 ) ) )", "int", "none"},
		{"( fn x : int ! put 0 => ( fn y : int ! none => ( x + y ) @ 0 ) @ 0 )", "( int -> ( int -> int ! none @ 0 ) ! put 0 @ 0 )", "put 0"},
		{"( let x = ( 1 , 2 @ 0 ) in ( fst x ) )", "int", "get 0 , put 0"},
		{"( let x = 1 in ( let x = ( x , x @ 0 ) in x ) )", "( int * int @ 0 )", "put 0"},
		{"( if 1 then ( 2 , 3 @ 0 ) else ( 4 , 5 @ 0 ) )", "( int * int @ 0 )", "put 0"},
		{"( raise E 1 : int )", "int", "exn E"},
		{"( raise E 1 : ( int -> ( ref int @ 0 ) ! get 0 , put 0 , exn F @ 0 ) )", "( int -> ( ref int @ 0 ) ! get 0 , put 0 , exn F @ 0 )", "exn E"},
		{"( raise E ( raise F 1 : int ) : int )", "int", "exn E , exn F"},
		{"( try ( raise E 1 : int ) with E x => x )", "int", "none"},
		{"( try ( raise E 1 : int ) with F x => x )", "int", "exn E"},
		{"( try ( raise E 1 : int ) with E x => ( raise E x : int ) )", "int", "exn E"},
		{"( try ( raise E ( raise F 1 : int ) : int ) with E x => ( fst ( x , 1 @ 0 ) ) )", "int", "get 0 , put 0 , exn F"},
		{"( try 1 with E x => x )", "int", "none"},
		{"( region 1 in 2 )", "int", "none"},
		{"( region 9 in ( region 4 in ( fst ( fst ( ( 1 , 2 @ 9 ) , 3 @ 4 ) ) ) ) )", "int", "none"},
		{"( region 1 in ( raise E ( fst ( 1 , 2 @ 1 ) ) : ( ref int @ 0 ) ) )", "( ref int @ 0 )", "exn E"},
		{"( letrec f [ ] x : int -> int ! none = x @ 0 in 3 )", "int", "put 0"},
		{"( letrec f [ 1 ] x : ( ref int @ 1 ) -> int ! get 1 = ( ! x ) @ 0 in ( ( f [ 0 ] ! get 0 @ 0 ) ( ref 1 @ 0 ) ) )", "int", "get 0 , put 0"},
		{"( letrec f [ 1 2 ] x : ( ref int @ 1 ) -> ( ref int @ 2 ) ! get 1 , put 2 = ( ref ( ! x ) @ 2 ) @ 0 in ( region 3 in ( ! ( ( f [ 0 3 ] ! get 0 , put 3 @ 3 ) ( ref 1 @ 0 ) ) ) ) )", "int", "get 0 , put 0"},
		{"( letrec f [ 1 2 ] x : ( ref int @ 1 ) -> ( ref int @ 2 ) ! get 1 , put 2 = ( ref ( ! x ) @ 2 ) @ 0 in ( f [ 0 0 ] ! get 0 , put 0 , exn E @ 0 ) )", "( ( ref int @ 0 ) -> ( ref int @ 0 ) ! get 0 , put 0 , exn E @ 0 )", "get 0 , put 0"},
		// Regions change places, all at a time.
		{"( letrec f [ 1 2 ] x : ( ( ref int @ 1 ) * ( ref int @ 2 ) @ 0 ) -> int ! get 0 , get 1 , get 2 , put 0 , put 1 , put 2 = ( if 0 then ( ( f [ 2 1 ] ! get 0 , get 1 , get 2 , put 0 , put 1 , put 2 @ 1 ) ( ( snd x ) , ( fst x ) @ 0 ) ) else ( ! ( fst x ) ) ) @ 0 in 1 )", "int", "put 0"},
		// A function may stand in a region of its own, and be told it.
		{"( region 7 in ( letrec f [ 1 ] x : int -> int ! put 1 = ( let y = ( ref x @ 1 ) in x ) @ 7 in ( ( f [ 7 ] ! put 7 @ 7 ) 2 ) ) )", "int", "none"},
		// Its Arg hides its Name, if both are the same; behind it the Name is there again.
		{"( letrec f [ ] f : int -> int ! none = ( f + 1 ) @ 0 in ( ( f [ ] ! none @ 0 ) 1 ) )", "int", "get 0 , put 0"},
		// The effect of a body stays with the function.
		{"( letrec f [ ] x : int -> int ! exn E = ( raise E x : int ) @ 0 in 1 )", "int", "put 0"},
		{"( fn x : int ! exn E => ( raise E x : int ) @ 0 )", "( int -> int ! exn E @ 0 )", "put 0"},
	} {
		right(t, read(t, c[0]), c[1], c[2])
	}
}

func TestWrong(t *testing.T) {
	for _, c := range []struct {
		text string // with a mark ahead of the node that is wrong, if it isn't the first one
		e    api.Errno
	}{
		// Regions that aren't in scope: each field that tells one, and each place where one was bound.
		{"( 1 , 2 @ 1 )", api.ErrScope},
		{"( ref 1 @ 1 )", api.ErrScope},
		{"( fn x : int ! none => x @ 1 )", api.ErrScope},
		{"( fn x : int ! get 1 => x @ 0 )", api.ErrScope},
		{"( fn x : int ! put 1 => x @ 0 )", api.ErrScope},
		{"( fn x : ( ref int @ 1 ) ! none => 1 @ 0 )", api.ErrScope},
		{"( fn x : ( ref ( int -> int ! put 1 @ 0 ) @ 0 ) ! none => 1 @ 0 )", api.ErrScope},
		{"( fn x : int ! none => ( region 1 in 2 ) @ 1 )", api.ErrScope},
		{"( raise E 1 : ( ref int @ 1 ) )", api.ErrScope},
		{"( ( region 1 in 2 ) , 3 @ 1 )", api.ErrScope},
		{"( let x = ( region 1 in 2 ) in ^ ( ref x @ 1 ) )", api.ErrScope},
		{"( letrec f [ 1 ] x : int -> int ! none = x @ 1 in 1 )", api.ErrScope},
		{"( letrec f [ ] x : int -> int ! none = x @ 1 in 1 )", api.ErrScope},
		{"( letrec f [ 1 ] x : int -> int ! get 2 = x @ 0 in 1 )", api.ErrScope},
		{"( letrec f [ 1 ] x : ( ref int @ 2 ) -> int ! none = 1 @ 0 in 1 )", api.ErrScope},
		{"( letrec f [ 1 ] x : int -> ( ref int @ 2 ) ! none = ( raise E 1 : ( ref int @ 0 ) ) @ 0 in 1 )", api.ErrScope},
		{"( letrec f [ 1 ] x : int -> int ! none = x @ 0 in ^ ( ref 1 @ 1 ) )", api.ErrScope},
		{"( letrec f [ 1 ] x : int -> int ! none = x @ 0 in ^ ( f [ 1 ] ! none @ 0 ) )", api.ErrScope},
		{"( letrec f [ 1 ] x : int -> int ! none = x @ 0 in ^ ( f [ 0 ] ! get 1 @ 0 ) )", api.ErrScope},
		{"( letrec f [ 1 ] x : int -> int ! none = x @ 0 in ^ ( f [ 0 ] ! none @ 1 ) )", api.ErrScope},
		{"( letrec f [ ] x : int -> int ! none = x @ 0 in ^ ( f [ ] ! none @ 9 ) )", api.ErrScope},
		// Names that aren't bound, or not there.
		{"x", api.ErrScope},
		{"( f [ ] ! none @ 0 )", api.ErrScope},
		{"( let x = ^ x in 1 )", api.ErrScope},
		{"( ( fn x : int ! none => x @ 0 ) ^ x )", api.ErrScope},
		{"( try ^ x with E x => x )", api.ErrScope},
		{"( letrec f [ ] x : int -> int ! none = 1 @ 0 in ^ x )", api.ErrScope},
		{"( ( letrec f [ ] x : int -> int ! none = 1 @ 0 in 2 ) ^ ( f [ ] ! none @ 0 ) )", api.ErrScope},
		// Functions of KLetrec, and other names.
		{"( letrec f [ ] x : int -> int ! none = x @ 0 in ^ f )", api.ErrType},
		{"( letrec f [ ] x : int -> int ! none = ( ^ f 1 ) @ 0 in 1 )", api.ErrType},
		{"( letrec f [ ] x : int -> int ! none = ^ ( x [ ] ! none @ 0 ) @ 0 in 1 )", api.ErrType},
		{"( letrec f [ ] f : int -> int ! none = ^ ( f [ ] ! none @ 0 ) @ 0 in 1 )", api.ErrType},
		{"( fn x : int ! none => ^ ( x [ ] ! none @ 0 ) @ 0 )", api.ErrType},
		{"( let x = 1 in ^ ( x [ ] ! none @ 0 ) )", api.ErrType},
		{"( try 1 with E x => ^ ( x [ ] ! none @ 0 ) )", api.ErrType},
		{"( let f = ( fn x : int ! none => x @ 0 ) in ( ^ ( f [ ] ! none @ 0 ) 1 ) )", api.ErrType},
		{"( letrec f [ 1 ] x : int -> int ! none = x @ 0 in ^ ( f [ ] ! none @ 0 ) )", api.ErrType},
		{"( letrec f [ 1 ] x : int -> int ! none = x @ 0 in ^ ( f [ 0 0 ] ! none @ 0 ) )", api.ErrType},
		{"( letrec f [ ] x : int -> int ! none = x @ 0 in ^ ( f [ 0 ] ! none @ 0 ) )", api.ErrType},
		{"( letrec f [ ] x : int -> int ! none = x @ 0 in ( let f = 1 in ^ ( f [ ] ! none @ 0 ) ) )", api.ErrType},
		// Types that don't fit, but for regions, too.
		{"( fst 1 )", api.ErrType},
		{"( snd ( ref 1 @ 0 ) )", api.ErrType},
		{"( fst ( fn x : int ! none => x @ 0 ) )", api.ErrType},
		{"( ! 1 )", api.ErrType},
		{"( ! ( 1 , 2 @ 0 ) )", api.ErrType},
		{"( 1 := 1 )", api.ErrType},
		{"( ( ref 1 @ 0 ) := ( ref 1 @ 0 ) )", api.ErrType},
		{"( region 1 in ^ ( ( ref ( ref 1 @ 1 ) @ 1 ) := ( ref 1 @ 0 ) ) )", api.ErrType},
		{"( ( 1 , 2 @ 0 ) := 1 )", api.ErrType},
		{"( ( ref 1 @ 0 ) + 2 )", api.ErrType},
		{"( 1 < ( ref 1 @ 0 ) )", api.ErrType},
		{"( 1 2 )", api.ErrType},
		{"( ( 1 , 2 @ 0 ) 1 )", api.ErrType},
		{"( ( fn x : int ! none => x @ 0 ) ( ref 1 @ 0 ) )", api.ErrType},
		{"( region 1 in ^ ( ( fn x : ( ref int @ 1 ) ! none => 1 @ 0 ) ( ref 1 @ 0 ) ) )", api.ErrType},
		{"( ( fn x : ( int -> int ! get 0 @ 0 ) ! none => 1 @ 0 ) ( fn x : int ! none => x @ 0 ) )", api.ErrType},
		{"( letrec f [ ] x : int -> ( ref int @ 0 ) ! none = x @ 0 in 1 )", api.ErrType},
		{"( letrec f [ 1 ] x : ( ref int @ 1 ) -> ( ref int @ 0 ) ! none = x @ 0 in 1 )", api.ErrType},
		{"( letrec f [ 1 ] x : ( ref int @ 1 ) -> int ! get 1 = ( ! x ) @ 0 in ( region 2 in ^ ( ( f [ 2 ] ! get 2 @ 0 ) ( ref 1 @ 0 ) ) ) )", api.ErrType},
		{"( if ( ref 1 @ 0 ) then 1 else 2 )", api.ErrType},
		{"( if 1 then 1 else ( ref 1 @ 0 ) )", api.ErrType},
		{"( region 1 in ^ ( if 1 then ( ref 1 @ 1 ) else ( ref 1 @ 0 ) ) )", api.ErrType},
		{"( raise E ( ref 1 @ 0 ) : int )", api.ErrType},
		{"( try 1 with E x => ( ref x @ 0 ) )", api.ErrType},
		{"( try ( ref 1 @ 0 ) with E x => x )", api.ErrType},
		// Effects that are too great, each atom of it, and regions that are left.
		{"( fn x : int ! none => ( ref x @ 0 ) @ 0 )", api.ErrRegion},
		{"( fn x : int ! none => ( fn y : int ! none => ( x + y ) @ 0 ) @ 0 )", api.ErrRegion},
		{"( fn x : ( ref int @ 0 ) ! put 0 => ( ! x ) @ 0 )", api.ErrRegion},
		{"( fn x : ( ref int @ 0 ) ! get 0 => ( x := 1 ) @ 0 )", api.ErrRegion},
		{"( fn x : int ! exn F => ( raise E 1 : int ) @ 0 )", api.ErrRegion},
		{"( fn x : ( int -> int ! exn E @ 0 ) ! get 0 => ( x 1 ) @ 0 )", api.ErrRegion},
		{"( fn x : ( int -> int ! exn E @ 0 ) ! exn E => ( x 1 ) @ 0 )", api.ErrRegion},
		{"( letrec f [ ] x : int -> int ! none = ( fst ( 1 , 2 @ 0 ) ) @ 0 in 1 )", api.ErrRegion},
		{"( letrec f [ 1 ] x : int -> int ! get 1 = ( fst ( 1 , 2 @ 1 ) ) @ 0 in 1 )", api.ErrRegion},
		{"( letrec f [ 1 ] x : int -> ( ref int @ 1 ) ! put 1 = ( ref 1 @ 1 ) @ 0 in ^ ( f [ 0 ] ! none @ 0 ) )", api.ErrRegion},
		{"( region 2 in ( letrec f [ 1 ] x : int -> int ! put 1 , put 2 = ( let y = ( ref ( ref 1 @ 1 ) @ 2 ) in x ) @ 0 in ( ^ ( f [ 0 ] ! put 0 @ 0 ) 1 ) ) )", api.ErrRegion},
		{"( letrec f [ ] x : int -> int ! exn E = x @ 0 in ^ ( f [ ] ! exn F @ 0 ) )", api.ErrRegion},
		{"( letrec f [ 1 ] x : int -> ( ref int @ 1 ) ! get 0 , put 0 , put 1 = ( ^ ( f [ 0 ] ! put 0 @ 0 ) x ) @ 0 in 1 )", api.ErrRegion},
		{"( region 1 in ( ref 1 @ 1 ) )", api.ErrRegion},
		{"( region 1 in ( ( ref 1 @ 1 ) , 2 @ 0 ) )", api.ErrRegion},
		{"( region 1 in ( fn x : int ! put 1 => ( let y = ( ref x @ 1 ) in x ) @ 0 ) )", api.ErrRegion},
		{"( region 1 in ( fn x : ( ref int @ 1 ) ! none => 1 @ 0 ) )", api.ErrRegion},
		{"( region 1 in ( raise E 1 : ( ref int @ 1 ) ) )", api.ErrRegion},
		{"( region 2 in ( fst ( ^ ( region 1 in ( ref 1 @ 1 ) ) , 2 @ 2 ) ) )", api.ErrRegion},
	} {
		x, at := marked(t, c.text)
		wrong(t, x, at, c.e)
	}
}
