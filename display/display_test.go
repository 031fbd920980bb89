package display_test

import (
	"math"
	"math/rand"
	"slices"
	"strconv"
	"strings"
	"testing"

	"enclave/api"
	"enclave/aterm"
	"enclave/display"
)

func get(n int) api.Atom { return api.Atom{Kind: 1, Rho: n} }

func put(n int) api.Atom { return api.Atom{Kind: 2, Rho: n} }

func exn(s string) api.Atom { return api.Atom{Kind: 3, Exn: s} }

func intType() api.RType { return api.RType{Kind: 1} }

func refType(rho int) api.RType {
	return api.RType{Kind: 3, Rho: rho, Kids: []api.RType{intType()}}
}

func pairType(rho int) api.RType {
	return api.RType{Kind: 2, Rho: rho, Kids: []api.RType{intType(), intType()}}
}

func fnType(rho int, a, b api.RType, e ...api.Atom) api.RType {
	return api.RType{Kind: 4, Rho: rho, Eff: e, Kids: []api.RType{a, b}}
}

// of is a term of a kind, with kids.
func of(kind uint8, kids ...api.ATerm) api.ATerm {
	return api.ATerm{Head: api.Head{Kind: kind}, Kids: kids}
}

// in is a term of a kind, with a region, and kids.
func in(rho int, kind uint8, kids ...api.ATerm) api.ATerm {
	t := of(kind, kids...)
	t.Rho = rho
	return t
}

func num(n int64) api.ATerm { return api.ATerm{Head: api.Head{Kind: 1, N: n}} }

func name(s string) api.ATerm { return api.ATerm{Head: api.Head{Kind: 2, Name: s}} }

func op(op uint8, a, b api.ATerm) api.ATerm {
	t := of(9, a, b)
	t.Op = op
	return t
}

func fn(rho int, arg string, y api.RType, a api.ATerm, e ...api.Atom) api.ATerm {
	return api.ATerm{Head: api.Head{Kind: 11, Arg: arg}, Rho: rho, Eff: e, Type: y, Kids: []api.ATerm{a}}
}

func let(s string, a, b api.ATerm) api.ATerm {
	return api.ATerm{Head: api.Head{Kind: 12, Name: s}, Kids: []api.ATerm{a, b}}
}

func rec(rho int, rhos []int, f, x string, y, z api.RType, a, b api.ATerm, e ...api.Atom) api.ATerm {
	return api.ATerm{Head: api.Head{Kind: 13, Name: f, Arg: x}, Rho: rho, Rhos: rhos, Eff: e, Type: y, Res: z, Kids: []api.ATerm{a, b}}
}

func raise(x string, a api.ATerm, y api.RType) api.ATerm {
	return api.ATerm{Head: api.Head{Kind: 15, Exn: x}, Type: y, Kids: []api.ATerm{a}}
}

func try(a api.ATerm, x, arg string, b api.ATerm) api.ATerm {
	return api.ATerm{Head: api.Head{Kind: 16, Exn: x, Arg: arg}, Kids: []api.ATerm{a, b}}
}

func inst(rho int, f string, rhos []int, e ...api.Atom) api.ATerm {
	return api.ATerm{Head: api.Head{Kind: 18, Name: f}, Rho: rho, Rhos: rhos, Eff: e}
}

// full is a term of a row that may be, if its kids may, all whose fields tell a number, so that none looks like another one's.
func full(r kindRow, n int, kids ...api.ATerm) api.ATerm {
	t := of(r.kind, kids...)
	t.Op, t.At = r.op, n
	own := strconv.Itoa(n)
	for _, f := range r.fields() {
		switch f {
		case "N":
			t.N = int64(n)
		case "Name":
			t.Name = "f" + own
		case "Arg":
			t.Arg = "x" + own
		case "Exn":
			t.Exn = "X" + own
		case "Rho":
			t.Rho = n
		case "Rhos":
			t.Rhos = []int{n + 2, n + 1}[:n%3]
		case "Eff":
			t.Eff = []api.Atom{get(n), put(n + 3), exn("E" + own)}[n%2 : n%4]
		case "Type":
			t.Type = refType(n)
		case "Res":
			t.Res = pairType(n)
		}
	}
	return t
}

// numbered are kids that are numbers, each another one.
func numbered(n int) []api.ATerm {
	var l []api.ATerm
	for i := range n {
		l = append(l, num(int64(100+i)))
	}
	return l
}

// big is a term that may be and has each kind, some of them one in the other, and each field.
func big() api.ATerm {
	y := fnType(2, pairType(1), refType(5), get(1), put(2), exn("E"))
	cond := of(14, op(4, name("x"), num(1)), in(7, 17, of(4, in(7, 3, num(0), name("x")))), of(5, name("x")))
	threw := raise("E2", in(6, 17, of(7, in(6, 6, num(math.MaxInt32)))), y)
	caught := try(threw, "E", "y", of(8, inst(2, "f", []int{0, 2, 0}, get(2), put(0)), num(3)))
	f := fn(3, "z", refType(2), in(9, 17, in(8, 17, name("x"))), exn("A"), exn("B"))
	lets := let("g", f, of(10, inst(0, "f", nil), caught))
	recs := rec(4, []int{5, 2, math.MaxInt}, "f", "x", intType(), y, cond, lets, get(5))
	return in(3, 17, in(4, 17, recs))
}

// node is the node of t that has left others ahead of it.
func node(t *api.ATerm, left int) *api.ATerm {
	for row := []*api.ATerm{t}; ; left-- {
		t, row = row[0], row[1:]
		if left == 0 {
			return t
		}
		for i := range t.Kids {
			row = slices.Insert(row, i, &t.Kids[i])
		}
	}
}

// clone is a term that shares no kids with another one.
func clone(t api.ATerm) api.ATerm {
	t.Kids = slices.Clone(t.Kids)
	for i := range t.Kids {
		t.Kids[i] = clone(t.Kids[i])
	}
	return t
}

// shows holds a term's text, and how many words it has, against the chapter. It stops at the first fault: where many terms are gone through, more of them tell nothing new.
func shows(t *testing.T, x api.ATerm) string {
	t.Helper()
	words := wordsOf(nil, x)
	want := strings.Join(words, " ")
	text, e := display.Term(x)
	if text != want || e != api.OK {
		t.Fatalf("P14.1: Term of %.300s = %.300q %d, want %.300q", exactly(x), text, e, want)
	}
	for _, l := range [][]string{nil, {"("}, {"@", ")"}, {words[0]}, {"", " ", "( "}, words} {
		if got, want := display.Count(x, l...), countOf(words, l); got != want {
			t.Fatalf("P14.1: Count of %.300q, %.100q = %d, want %d", text, l, got, want)
		}
	}
	return text
}

// reads holds that a text is read back by the chapter as one term alone.
func reads(t *testing.T, x api.ATerm) {
	t.Helper()
	l := readings(shows(t, x))
	if len(l) != 1 || exactly(l[0]) != butForPlaces(x) {
		t.Fatalf("P14.2: the text of %.300s is read as %d terms", exactly(x), len(l))
	}
}

// texts are the terms that were met, by their texts.
type texts map[string]string

// meet holds a term's text, and that it is no other one's that was met.
func (m texts) meet(t *testing.T, x api.ATerm) {
	t.Helper()
	text, own := shows(t, x), butForPlaces(x)
	if other, is := m[text]; is && other != own {
		t.Fatalf("P14.2: two terms have the text %.300q", text)
	}
	m[text] = own
}

// refused holds that a term may not be.
func refused(t *testing.T, x api.ATerm) {
	t.Helper()
	if s, e := display.Term(x); s != "" || e != api.ErrArg {
		t.Fatalf("P14.1, P0.2: Term of what may not be, %.300s, = %.300q %d", exactly(x), s, e)
	}
	for _, l := range [][]string{nil, {""}, {" "}, {"(", ")", "@", "0", "1", "x", "f", "int", "none", "get", "in", "region", ","}} {
		if n := display.Count(x, l...); n != 0 {
			t.Fatalf("P14.1: Count of what may not be, %.300s, %q = %d", exactly(x), l, n)
		}
	}
}

// told holds a term, whether it may be or not.
func told(t *testing.T, x api.ATerm) {
	t.Helper()
	if aterm.May(x) {
		shows(t, x)
	} else {
		refused(t, x)
	}
}

// TestChapter has what the chapters tell of kinds, told once more by hand.
func TestChapter(t *testing.T) {
	want := []string{
		"KNum 1 0 digits", "KVar 2 0 f", "KPair 3 0 ( a , b @ r )", "KFst 4 0 ( fst a )", "KSnd 5 0 ( snd a )", "KRef 6 0 ( ref a @ r )", "KGet 7 0 ( ! a )", "KSet 8 0 ( a := b )",
		"KOp 9 1 ( a + b )", "KOp 9 2 ( a - b )", "KOp 9 3 ( a * b )", "KOp 9 4 ( a < b )", "KOp 9 5 ( a = b )", "KApp 10 0 ( a b )", "KFn 11 0 ( fn x : T ! E => a @ r )",
		"KLet 12 0 ( let x = a in b )", "KLetrec 13 0 ( letrec f [ r1 r2 .. ] x : T -> U ! E = a @ r in b )", "KIf 14 0 ( if a then b else c )", "KRaise 15 0 ( raise X a : T )",
		"KTry 16 0 ( try a with X x => b )", "KRegion 17 0 ( region r in a )", "KInst 18 0 ( f [ r1 r2 .. ] ! E @ r )",
	}
	fields := []string{"N", "Name", "0 1 Rho", "0", "0", "0 Rho", "0", "0 1", "0 1", "0 1", "0 1", "0 1", "0 1", "0 1", "Arg Type Eff 0 Rho", "Name 0 1", "Name Rhos Arg Type Res Eff 0 Rho 1", "0 1 2", "Exn 0 Type", "0 Exn Arg 1", "Rho 0", "Name Rhos Eff Rho"}
	if len(kindRows) != len(want) {
		t.Fatal("the chapters are read as", kindRows)
	}
	for i, r := range kindRows {
		if s := strings.Join(append([]string{r.name, strconv.Itoa(int(r.kind)), strconv.Itoa(int(r.op))}, r.words...), " "); s != want[i] {
			t.Errorf("the chapters are read as %q, want %q", s, want[i])
		}
		if s := strings.Join(r.fields(), " "); s != fields[i] {
			t.Errorf("the fields of %s are read as %q", r.name, s)
		}
		if x := full(r, 7, numbered(r.kids())...); !aterm.May(x) {
			t.Errorf("it may not be: %s", exactly(x))
		}
	}
}

// TestExample has the chapter's example.
func TestExample(t *testing.T) {
	x := in(1, 17, of(4, in(1, 3, num(2), num(3))))
	if s, e := display.Term(x); s != "( region 1 in ( fst ( 2 , 3 @ 1 ) ) )" || e != api.OK {
		t.Errorf("P14.1: Term = %q %d", s, e)
	}
	reads(t, x)
}

// TestReadme has what README.md shows of this layer.
func TestReadme(t *testing.T) {
	i := api.RType{Kind: api.TyInt}
	x := api.ATerm{Head: api.Head{Kind: api.KVar, Name: "x"}}
	pair := api.ATerm{Head: api.Head{Kind: api.KPair}, Rho: 1, Kids: []api.ATerm{x, x}}
	fst := api.ATerm{Head: api.Head{Kind: api.KFst}, Kids: []api.ATerm{pair}}
	r := api.ATerm{Head: api.Head{Kind: api.KRegion}, Rho: 1, Kids: []api.ATerm{fst}}
	put := api.Atom{Kind: api.AtPut, Rho: 2}
	f := api.ATerm{Head: api.Head{Kind: api.KFn, Arg: "x"}, Eff: []api.Atom{put}, Type: i, Kids: []api.ATerm{r}}
	s, e := display.Term(f)
	if s != "( fn x : int ! put 2 => ( region 1 in ( fst ( x , x @ 1 ) ) ) @ 0 )" || e != api.OK {
		t.Errorf("P14.1: Term = %q %d", s, e)
	}
	if n := display.Count(f, "x", "@"); n != 5 {
		t.Error("P14.1: Count", n)
	}
	if n := display.Count(f, "put 2"); n != 0 {
		t.Error("P14.1: Count", n)
	}
	if s, e = display.Term(api.ATerm{}); s != "" || e != api.ErrArg {
		t.Errorf("P14.1: Term = %q %d", s, e)
	}
}

// TestTexts has texts told by hand.
func TestTexts(t *testing.T) {
	i, x, y := intType(), name("x"), name("y")
	e := []api.Atom{get(0), get(12), put(3), exn("A"), exn("Exn1")}
	for _, c := range []struct {
		t    api.ATerm
		want string
	}{
		{num(0), "0"}, {num(10), "10"}, {num(math.MaxInt32), "2147483647"}, {x, "x"}, {name("abcdefghijklmnop"), "abcdefghijklmnop"}, {name("region"), "region"},
		{in(0, 3, x, y), "( x , y @ 0 )"}, {in(math.MaxInt, 3, num(1), num(2)), "( 1 , 2 @ 9223372036854775807 )"}, {in(2, 3, in(3, 3, x, y), num(1)), "( ( x , y @ 3 ) , 1 @ 2 )"},
		{of(4, x), "( fst x )"}, {of(5, of(4, x)), "( snd ( fst x ) )"}, {in(4, 6, num(7)), "( ref 7 @ 4 )"}, {of(7, in(0, 6, x)), "( ! ( ref x @ 0 ) )"},
		{of(8, x, of(7, y)), "( x := ( ! y ) )"}, {of(8, of(8, x, y), num(1)), "( ( x := y ) := 1 )"},
		{op(1, x, num(1)), "( x + 1 )"}, {op(2, num(2), y), "( 2 - y )"}, {op(3, x, y), "( x * y )"}, {op(4, x, y), "( x < y )"}, {op(5, x, y), "( x = y )"}, {op(1, op(3, x, y), op(2, y, x)), "( ( x * y ) + ( y - x ) )"},
		{of(10, x, y), "( x y )"}, {of(10, of(10, x, y), num(1)), "( ( x y ) 1 )"}, {of(10, x, of(10, y, num(1))), "( x ( y 1 ) )"}, {of(10, name("region"), num(8)), "( region 8 )"},
		{fn(0, "x", i, y), "( fn x : int ! none => y @ 0 )"}, {fn(5, "a", refType(2), x, e...), "( fn a : ( ref int @ 2 ) ! get 0 , get 12 , put 3 , exn A , exn Exn1 => x @ 5 )"},
		{fn(1, "x", fnType(2, pairType(3), i, put(4), exn("E")), fn(6, "y", i, x), get(3)), "( fn x : ( ( int * int @ 3 ) -> int ! put 4 , exn E @ 2 ) ! get 3 => ( fn y : int ! none => x @ 6 ) @ 1 )"},
		{let("z", x, y), "( let z = x in y )"}, {let("z", let("y", num(1), num(2)), let("x", num(3), num(4))), "( let z = ( let y = 1 in 2 ) in ( let x = 3 in 4 ) )"},
		{rec(0, nil, "f", "x", i, i, x, y), "( letrec f [ ] x : int -> int ! none = x @ 0 in y )"}, {rec(7, []int{3}, "g", "y", refType(1), pairType(3), x, y, e[2:4]...), "( letrec g [ 3 ] y : ( ref int @ 1 ) -> ( int * int @ 3 ) ! put 3 , exn A = x @ 7 in y )"},
		{rec(1, []int{30, 2, math.MaxInt}, "f", "a", i, refType(0), num(1), num(2), get(2)), "( letrec f [ 30 2 9223372036854775807 ] a : int -> ( ref int @ 0 ) ! get 2 = 1 @ 1 in 2 )"},
		{of(14, x, y, num(3)), "( if x then y else 3 )"}, {of(14, of(14, num(1), num(2), num(3)), of(14, num(4), num(5), num(6)), x), "( if ( if 1 then 2 else 3 ) then ( if 4 then 5 else 6 ) else x )"},
		{raise("E", x, i), "( raise E x : int )"}, {raise("Abcdefghijklmnop", num(1), refType(9)), "( raise Abcdefghijklmnop 1 : ( ref int @ 9 ) )"},
		{try(x, "E", "a", y), "( try x with E a => y )"}, {try(raise("A", x, i), "B", "y", try(num(1), "C", "z", num(2))), "( try ( raise A x : int ) with B y => ( try 1 with C z => 2 ) )"},
		{in(1, 17, x), "( region 1 in x )"}, {in(math.MaxInt, 17, in(20, 17, num(8))), "( region 9223372036854775807 in ( region 20 in 8 ) )"},
		{inst(0, "f", nil), "( f [ ] ! none @ 0 )"}, {inst(2, "f", []int{0}, e[:1]...), "( f [ 0 ] ! get 0 @ 2 )"}, {inst(11, "region", []int{4, 4, 0, math.MaxInt}, e[1:3]...), "( region [ 4 4 0 9223372036854775807 ] ! get 12 , put 3 @ 11 )"},
		{big(), "( region 3 in ( region 4 in ( letrec f [ 5 2 9223372036854775807 ] x : int -> ( ( int * int @ 1 ) -> ( ref int @ 5 ) ! get 1 , put 2 , exn E @ 2 ) ! get 5 = ( if ( x < 1 ) then ( region 7 in ( fst ( 0 , x @ 7 ) ) ) else ( snd x ) ) @ 4 in ( let g = ( fn z : ( ref int @ 2 ) ! exn A , exn B => ( region 9 in ( region 8 in x ) ) @ 3 ) in ( ( f [ ] ! none @ 0 ) ( try ( raise E2 ( region 6 in ( ! ( ref 2147483647 @ 6 ) ) ) : ( ( int * int @ 1 ) -> ( ref int @ 5 ) ! get 1 , put 2 , exn E @ 2 ) ) with E y => ( ( f [ 0 2 0 ] ! get 2 , put 0 @ 2 ) := 3 ) ) ) ) ) ) )"},
	} {
		if s, e := display.Term(c.t); s != c.want || e != api.OK {
			t.Errorf("P14.1: Term = %q %d, want %q", s, e, c.want)
		}
		reads(t, c.t)
	}
}

// TestCounts has words counted by hand.
func TestCounts(t *testing.T) {
	f := fn(5, "none", fnType(2, refType(5), intType(), get(5), exn("None")), in(12, 17, of(10, name("none"), num(5))), get(5), put(5)) // ( fn none : ( ( ref int @ 5 ) -> int ! get 5 , exn None @ 2 ) ! get 5 , put 5 => ( region 12 in ( none 5 ) ) @ 5 )
	g := rec(1, []int{1, 12}, "region", "none", intType(), intType(), inst(1, "region", []int{1, 1, 2}), num(1))                        // ( letrec region [ 1 12 ] none : int -> int ! none = ( region [ 1 1 2 ] ! none @ 1 ) @ 1 in 1 )
	for _, c := range []struct {
		t     api.ATerm
		words string
		want  int
	}{
		{f, "(", 5}, {f, ")", 5}, {f, "( )", 10}, {f, "5", 6}, {f, "2", 1}, {f, "12", 1}, {f, "1", 0}, {f, "int", 2}, {f, "none", 2}, {f, "None", 1}, {f, "NONE", 0}, {f, "get", 2}, {f, "put", 1}, {f, "get put exn", 4},
		{f, ",", 2}, {f, "!", 2}, {f, "@", 3}, {f, ":", 1}, {f, "->", 1}, {f, "=>", 1}, {f, "- > =", 0}, {f, "region in", 2}, {f, "fn", 1}, {f, "f n", 0}, {f, "5 5 5", 6}, {f, "5 none 5 none x", 8}, {f, "", 0},
		{g, "region", 2}, {g, "none", 3}, {g, "[", 2}, {g, "]", 2}, {g, "1", 6}, {g, "2", 1}, {g, "12", 1}, {g, "[ 1 12 ]", 11}, {g, "in", 1}, {g, "int", 2}, {g, "= -> :", 3}, {g, "letrec", 1}, {g, "let rec", 0},
		{num(0), "0", 1}, {num(0), "00 1 -0", 0}, {num(100), "100", 1}, {num(100), "1 10 0", 0}, {name("x"), "x", 1}, {name("x"), "X xx ( )", 0}, {name("xx"), "x", 0},
	} {
		if n := display.Count(c.t, strings.Fields(c.words)...); n != c.want {
			s, _ := display.Term(c.t)
			t.Errorf("P14.1: Count of %q, %q = %d, want %d", s, c.words, n, c.want)
		}
		shows(t, c.t)
	}
	for _, l := range [][]string{{"get 5"}, {"( fn"}, {"5 "}, {" 5"}, {""}, {" "}, {"int @"}, {"\t"}, {"5\n"}, {"\x00"}, {"é", "\xff"}} {
		if n := display.Count(f, l...); n != 0 {
			t.Errorf("P14.1: Count of %q, of which none is a word, = %d", l, n)
		}
	}
	if n := display.Count(f, slices.Repeat([]string{"x", "5", ""}, 1<<16)...); n != 6 {
		t.Error("P14.1: Count of many words", n)
	}
}

// leaves are the rows of kinds without kids.
func leaves() []kindRow {
	return slices.DeleteFunc(slices.Clone(kindRows), func(r kindRow) bool { return r.kids() > 0 })
}

// splits are all ways to share so many nodes among kids, each at least one.
func splits(nodes, kids int) [][]int {
	if kids == 1 {
		return [][]int{{nodes}}
	}
	var all [][]int
	for first := 1; first <= nodes-kids+1; first++ {
		for _, others := range splits(nodes-first, kids-1) {
			all = append(all, append([]int{first}, others...))
		}
	}
	return all
}

// forests are all rows of terms of so many nodes each, the first node having a number, each other one the next.
func forests(sizes []int, first int) [][]api.ATerm {
	if len(sizes) == 0 {
		return [][]api.ATerm{nil}
	}
	var all [][]api.ATerm
	behind := forests(sizes[1:], first+sizes[0])
	for _, t := range allOf(sizes[0], first) {
		for _, others := range behind {
			all = append(all, append([]api.ATerm{t}, others...))
		}
	}
	return all
}

// allOf are all terms of so many nodes, each of each kind.
func allOf(nodes, first int) []api.ATerm {
	var all []api.ATerm
	for _, r := range kindRows {
		switch kids := r.kids(); {
		case kids == 0 && nodes == 1:
			all = append(all, full(r, first))
		case kids > 0 && nodes > kids:
			for _, sizes := range splits(nodes-1, kids) {
				for _, l := range forests(sizes, first+1) {
					all = append(all, full(r, first, l...))
				}
			}
		}
	}
	return all
}

func TestAllSmallTerms(t *testing.T) {
	met := texts{}
	for nodes := 1; nodes <= 5; nodes++ {
		for _, x := range allOf(nodes, 1) {
			met.meet(t, x)
			if nodes < 5 {
				reads(t, x)
			}
		}
	}
	if len(met) != 3+21+246+3135+43599 {
		t.Error("so many terms were met:", len(met))
	}
}

// edges are values that a field may have.
func edges(field string) []func(x *api.ATerm) {
	var l []func(x *api.ATerm)
	switch field {
	case "N":
		for _, n := range []int64{0, 1, 9, 10, 99, 100, 255, 256, 65535, 65536, 1000000007, math.MaxInt32} {
			l = append(l, func(x *api.ATerm) { x.N = n })
		}
	case "Name", "Arg":
		for _, s := range []string{"a", "z", "x0", "aB9", "abcdefghijklmnop", "int", "none", "region", "get", "put", "inn", "iF", "e", "r1"} {
			l = append(l, func(x *api.ATerm) { *map[string]*string{"Name": &x.Name, "Arg": &x.Arg}[field] = s })
		}
	case "Exn":
		for _, s := range []string{"A", "Z", "E0", "Ab9", "ABCDEFGHIJKLMNOP", "None", "IN", "T"} {
			l = append(l, func(x *api.ATerm) { x.Exn = s })
		}
	case "Rho":
		for _, rho := range []int{0, 1, 2, 9, 10, 255, 256, 65536, math.MaxInt32, math.MaxInt32 + 1, math.MaxUint32, math.MaxInt} {
			l = append(l, func(x *api.ATerm) { x.Rho = rho })
		}
	case "Rhos":
		for _, rhos := range [][]int{nil, {}, {1}, {10}, {0}, {2, 1}, {1, 2}, {1, 1}, {12}, {0, 0, 0}, {3, 1, 2, 4, 10, 9}, {math.MaxInt, 1}} {
			l = append(l, func(x *api.ATerm) { x.Rhos = rhos })
		}
	case "Eff":
		for _, e := range [][]api.Atom{nil, {}, {get(0)}, {put(0)}, {exn("E")}, {get(1), get(2)}, {get(12)}, {get(1), put(1)}, {get(3), exn("A"), exn("B")}, {put(2), put(math.MaxInt)}, {get(0), get(1), put(0), put(7), exn("A"), exn("Aa"), exn("B")}} {
			l = append(l, func(x *api.ATerm) { x.Eff = e })
		}
	case "Type", "Res":
		for _, y := range types() {
			l = append(l, func(x *api.ATerm) { *map[string]*api.RType{"Type": &x.Type, "Res": &x.Res}[field] = y })
		}
	}
	return l
}

func types() []api.RType {
	i := intType()
	return []api.RType{
		i, refType(0), refType(10), {Kind: 3, Rho: 1, Kids: []api.RType{refType(2)}}, pairType(0), {Kind: 2, Rho: 4, Kids: []api.RType{pairType(1), refType(2)}}, {Kind: 2, Rho: 4, Kids: []api.RType{i, pairType(1)}},
		fnType(0, i, i), fnType(3, i, i, get(3)), fnType(math.MaxInt, pairType(1), fnType(2, i, i, exn("E")), get(1), put(2), exn("A")), fnType(1, fnType(2, i, i), i, put(0)),
	}
}

// TestEdges has all pairs of fields of each kind with all their edges.
func TestEdges(t *testing.T) {
	for _, r := range kindRows {
		met := texts{}
		all := r.fields()
		for i, f := range all {
			for _, g := range all[i:] {
				for _, one := range edges(f) {
					for _, other := range edges(g) {
						x := full(r, 7, numbered(r.kids())...)
						one(&x)
						other(&x)
						if !aterm.May(x) {
							refused(t, x)
							continue
						}
						reads(t, x)
						met.meet(t, x)
					}
				}
			}
		}
	}
}

// TestEachInEach has each kind as each kid of each other one, and that one as each kid of each other one.
func TestEachInEach(t *testing.T) {
	for _, a := range kindRows {
		for i := range a.kids() {
			for _, b := range kindRows {
				kids := numbered(a.kids())
				kids[i] = full(b, 20, numbered(b.kids())...)
				x := full(a, 31, kids...)
				reads(t, x)
				for _, c := range kindRows {
					for j := range c.kids() {
						l := numbered(c.kids())
						l[j] = x
						shows(t, full(c, 41, l...))
					}
				}
			}
		}
	}
}

// others are terms that differ from t in one thing each, other than their places, and may be if t may.
func others(t api.ATerm) []api.ATerm {
	var l []api.ATerm
	r := rowOf(t)
	for _, f := range r.fields() {
		for _, edge := range edges(f) {
			x := t
			edge(&x)
			l = append(l, x)
		}
	}
	for _, other := range kindRows {
		if other.kids() == r.kids() {
			l = append(l, full(other, 5, t.Kids...))
		}
	}
	if len(t.Kids) > 0 {
		x := t
		x.Kids = slices.Clone(t.Kids)
		slices.Reverse(x.Kids)
		l = append(l, x, t.Kids[0])
	}
	return l
}

// TestOneTextOneTerm changes each node of a whole term to each other one.
func TestOneTextOneTerm(t *testing.T) {
	met := texts{}
	met.meet(t, big())
	for at := range aterm.Size(big()) {
		whole := big()
		for _, other := range others(*node(&whole, at)) {
			x := clone(whole)
			*node(&x, at) = other
			if !aterm.May(x) {
				refused(t, x)
				continue
			}
			reads(t, x)
			met.meet(t, x)
		}
	}
}

// TestPlacesCountForNothing has a term at other places.
func TestPlacesCountForNothing(t *testing.T) {
	want := shows(t, big())
	for _, place := range []int{0, 1, 77, 65536, math.MaxInt} {
		x := big()
		for at := range aterm.Size(x) {
			node(&x, at).At = place
		}
		if got := shows(t, x); got != want {
			t.Errorf("P14.1: at the place %d the text is %q", place, got)
		}
		node(&x, aterm.Size(x)-1).At = -1
		refused(t, x)
	}
}

// spoils make a node such as may not be, or, some of them, another one.
func spoils() []func(x *api.ATerm) {
	return []func(x *api.ATerm){
		func(x *api.ATerm) { *x = api.ATerm{} },
		func(x *api.ATerm) { x.Kind = 0 },
		func(x *api.ATerm) { x.Kind = 19 },
		func(x *api.ATerm) { x.Kind = 255 },
		func(x *api.ATerm) { x.Kind++ },
		func(x *api.ATerm) { x.Kind += 128 },
		func(x *api.ATerm) { x.Kind = 17 },
		func(x *api.ATerm) { x.Kind = 18 },
		func(x *api.ATerm) { x.At = -1 },
		func(x *api.ATerm) { x.Op++ },
		func(x *api.ATerm) { x.Op = 6 },
		func(x *api.ATerm) { x.Op = 255 },
		func(x *api.ATerm) { x.N = -1 },
		func(x *api.ATerm) { x.N = math.MaxInt32 + 1 },
		func(x *api.ATerm) { x.N++ },
		func(x *api.ATerm) { x.Name = "" },
		func(x *api.ATerm) { x.Name = "let" },
		func(x *api.ATerm) { x.Name = "a b" },
		func(x *api.ATerm) { x.Name = "x" },
		func(x *api.ATerm) { x.Arg = "E" },
		func(x *api.ATerm) { x.Arg = "abcdefghijklmnopq" },
		func(x *api.ATerm) { x.Exn = "e" },
		func(x *api.ATerm) { x.Exn = "" },
		func(x *api.ATerm) { x.Rho = -1 },
		func(x *api.ATerm) { x.Rho = math.MinInt },
		func(x *api.ATerm) { x.Rho = 0 },
		func(x *api.ATerm) { x.Rho++ },
		func(x *api.ATerm) { x.Rhos = []int{-1} },
		func(x *api.ATerm) { x.Rhos = []int{1, 0} },
		func(x *api.ATerm) { x.Rhos = []int{3, 1, 3} },
		func(x *api.ATerm) { x.Eff = []api.Atom{{}} },
		func(x *api.ATerm) { x.Eff = []api.Atom{get(1), get(0)} },
		func(x *api.ATerm) { x.Eff = []api.Atom{get(1), get(1)} },
		func(x *api.ATerm) { x.Eff = []api.Atom{get(-1)} },
		func(x *api.ATerm) { x.Eff = []api.Atom{exn("in")} },
		func(x *api.ATerm) { x.Type = api.RType{} },
		func(x *api.ATerm) { x.Type = api.RType{Kind: 5} },
		func(x *api.ATerm) { x.Type = intType() },
		func(x *api.ATerm) { x.Type = api.RType{Kind: 3} },
		func(x *api.ATerm) { x.Res = refType(-1) },
		func(x *api.ATerm) { x.Res = fnType(0, intType(), api.RType{}) },
		func(x *api.ATerm) { x.Res = intType() },
		func(x *api.ATerm) { x.Kids = nil },
		func(x *api.ATerm) { x.Kids = append(slices.Clone(x.Kids), num(1)) },
		func(x *api.ATerm) { x.Kids = append([]api.ATerm{num(1)}, x.Kids...) },
	}
}

func TestWhatMayNotBe(t *testing.T) {
	refused(t, api.ATerm{})
	for kind := range 256 {
		for kids := range 5 {
			told(t, of(uint8(kind), numbered(kids)...))
		}
	}
	for _, r := range kindRows {
		for kids := range 5 {
			told(t, full(r, 3, numbered(kids)...))
		}
		for _, one := range spoils() {
			for _, other := range spoils() {
				x := full(r, 3, numbered(r.kids())...)
				one(&x)
				other(&x)
				told(t, x)
			}
		}
	}
	odd := 0
	for at := range aterm.Size(big()) {
		for _, spoil := range spoils() {
			x := clone(big())
			spoil(node(&x, at))
			told(t, x)
			if !aterm.May(x) {
				odd++
			}
		}
	}
	if odd < 20*aterm.Size(big()) {
		t.Error("too few of these terms may not be:", odd)
	}
	ring := make([]api.ATerm, 1)
	ring[0] = of(4, ring...)
	if s, e := display.Term(ring[0]); s != "" || e != api.ErrArg || display.Count(ring[0], "fst") != 0 {
		t.Error("P0.1, P14.1: what stands in itself has too many nodes:", e)
	}
}

// chain has just so many nodes, each with kids of a row, the next of them standing in the kid at a place; where the kids are too many for the rest, snd stands in their stead.
func chain(r kindRow, place, nodes int) api.ATerm {
	t := num(1)
	rest := nodes - 1
	for ; rest%r.kids() != 0; rest-- {
		t = of(5, t)
	}
	for ; rest > 0; rest -= r.kids() {
		kids := numbered(r.kids())
		kids[place] = t
		t = full(r, rest, kids...)
	}
	return t
}

func TestMostNodes(t *testing.T) {
	for _, r := range kindRows {
		for place := range r.kids() {
			if r.op > 1 { // they are all alike
				continue
			}
			x := chain(r, place, 40000)
			words := wordsOf(nil, x)
			if s, e := display.Term(x); s != strings.Join(words, " ") || e != api.OK {
				t.Errorf("P14.1: Term of 40000 nodes of %s, each in the kid %d: %d", r.name, place, e)
			}
			if got, want := display.Count(x, words[:9]...), countOf(words, words[:9]); got != want {
				t.Errorf("P14.1: Count of %q in 40000 nodes of %s, each in the kid %d: %d, want %d", words[:9], r.name, place, got, want)
			}
			x = chain(r, place, 40001)
			if s, e := display.Term(x); s != "" || e != api.ErrArg || display.Count(x, words...) != 0 {
				t.Errorf("P14.1: Term of 40001 nodes of %s, each in the kid %d: %d", r.name, place, e)
			}
		}
	}
	tower := num(1)
	for range 14 { // both kids are the same memory
		tower = of(10, tower, tower)
	}
	if n := display.Count(tower, "("); n != 1<<14-1 {
		t.Error("P14.1: Count of the brackets of 2^15 - 1 nodes", n)
	}
	shows(t, tower)
	if s, e := display.Term(of(10, tower, tower)); s != "" || e != api.ErrArg {
		t.Error("P14.1: Term of 2^16 - 1 nodes", e)
	}
}

// TestGreatFields has types, effects and lists of regions that are as great, and as deep, as the document's limits allow.
func TestGreatFields(t *testing.T) {
	y, z := intType(), intType()
	for n := range 1<<16 - 2 {
		y = api.RType{Kind: 3, Rho: n, Kids: []api.RType{y}}
		z = fnType(n, intType(), z, get(n), put(n+1))
	}
	var rhos []int
	var e []api.Atom
	for n := range 1 << 16 {
		rhos = append(rhos, 1<<16-n)
		e = append(e, get(n))
	}
	for n := range 1 << 16 {
		e = append(e, put(2*n))
	}
	for _, x := range []api.ATerm{raise("E", num(1), y), fn(1, "x", z, num(1), e...), rec(1, rhos, "f", "x", y, z, num(1), num(2), e[:10]...), inst(1, "f", append(rhos, rhos...), e...)} {
		if !aterm.May(x) {
			t.Fatal("it may not be")
		}
		shows(t, x)
	}
	x := inst(1, "f", rhos, e...)
	if n := display.Count(x, "get"); n != 1<<16 {
		t.Error("P14.1: Count of get", n)
	}
	if n := display.Count(x, "get", ",", "65536"); n != 1<<16+1<<17-1+2 {
		t.Error("P14.1: Count of get, commas and 65536", n)
	}
}

// grown is a term that may be, with about so many nodes.
func grown(r *rand.Rand, left int) api.ATerm {
	rows := kindRows
	if left <= 0 {
		rows = leaves()
	}
	row := rows[r.Intn(len(rows))]
	for left > 0 && row.kids() == 0 {
		row = rows[r.Intn(len(rows))]
	}
	var kids []api.ATerm
	for range row.kids() {
		kids = append(kids, grown(r, (left-1)/row.kids()))
	}
	for {
		t := full(row, r.Intn(30), numbered(len(kids))...)
		for _, f := range row.fields() {
			if l := edges(f); len(l) > 0 && r.Intn(2) == 0 {
				l[r.Intn(len(l))](&t)
			}
		}
		if aterm.May(t) {
			t.Kids = kids
			return t
		}
	}
}

func TestGrown(t *testing.T) {
	r := rand.New(rand.NewSource(14))
	met := texts{}
	for range 2000 {
		x := grown(r, r.Intn(60))
		reads(t, x)
		met.meet(t, x)
		words := wordsOf(nil, x)
		for range 5 { // some words, of this text and of others
			var l []string
			for range r.Intn(6) {
				l = append(l, []string{words[r.Intn(len(words))], "x", "none", "(", "3", strconv.Itoa(r.Intn(100))}[r.Intn(6)])
			}
			if got, want := display.Count(x, l...), countOf(words, l); got != want {
				t.Fatalf("P14.1: Count of %.300q, %q = %d, want %d", words, l, got, want)
			}
		}
		spoil := spoils()
		spoil[r.Intn(len(spoil))](node(&x, r.Intn(aterm.Size(x))))
		told(t, x)
	}
}
