package scope_test

import (
	"fmt"
	"math/rand"
	"reflect"
	"slices"
	"strings"
	"testing"

	"enclave/api"
	"enclave/parse"
	"enclave/scope"
	"enclave/term"
)

// node is a term of a head and kids.
func node(h api.Head, kids ...api.Term) api.Term { return api.Term{Head: h, Kids: kids} }

// of is a term of a kind and kids.
func of(kind uint8, kids ...api.Term) api.Term { return node(api.Head{Kind: kind}, kids...) }

func num() api.Term { return node(api.Head{Kind: 1, N: 7}) }

func name(s string) api.Term { return node(api.Head{Kind: 2, Name: s}) }

// read is the term of a text.
func read(t *testing.T, s string) api.Term {
	t.Helper()
	x, _, e := parse.Term([]byte(s))
	if e != api.OK {
		t.Fatal("not read:", s)
	}
	return x
}

// exns are exceptions as tokens, each at a place of its own: 1000, 1001, ..
func exns(l ...string) []api.Token {
	var tokens []api.Token
	for i, s := range l {
		tokens = append(tokens, api.Token{Kind: 3, Text: s, At: 1000 + i})
	}
	return tokens
}

// manyExns are n exceptions' names, each another one.
func manyExns(n int) []string {
	var l []string
	for i := range n {
		l = append(l, fmt.Sprint("E", i))
	}
	return l
}

// heads are heads of a line with each of these names in its fields.
func (r kindRow) heads(names, exns []string) []api.Head {
	l := []api.Head{{Kind: r.kind}}
	for _, f := range strings.Fields(r.fields) {
		var more []api.Head
		for _, h := range l {
			switch f {
			case "Op":
				h.Op = 1
				more = append(more, h)
			case "N":
				more = append(more, h)
			case "Exn":
				for _, h.Exn = range exns {
					more = append(more, h)
				}
			case "Name":
				for _, h.Name = range names {
					more = append(more, h)
				}
			case "Arg":
				for _, h.Arg = range names {
					more = append(more, h)
				}
			}
		}
		l = more
	}
	return l
}

// scatter gives each node a place of its own, such that they don't grow in the order of nodes.
func scatter(t api.Term, next *int) api.Term {
	t.At = 1 + (*next*1549+777)%4001
	*next++
	kids := t.Kids
	t.Kids = nil
	for _, k := range kids {
		t.Kids = append(t.Kids, scatter(k, next))
	}
	return t
}

// scattered is a term whose nodes stand all about.
func scattered(t api.Term) api.Term { return scatter(t, new(int)) }

// declarations are lists of exceptions that may be declared.
var declarations = [][]string{nil, {"E"}, {"F"}, {"E", "F"}, {"F", "G", "E"}}

// holds holds what is told of a term against the chapter. It stops at the first fault: where many terms are gone through, more of them tell nothing new.
func holds(t *testing.T, x api.Term) {
	t.Helper()
	free, named := scope.Free(x), scope.Exns(x)
	if want := freeOf(x); !slices.Equal(free, want) {
		t.Fatalf("P7.1: Free of %v = %q, want %q", x, free, want)
	}
	if want := exnsOf(x); !slices.Equal(named, want) {
		t.Fatalf("P7.1: Exns of %v = %q, want %q", x, named, want)
	}
	for _, d := range declarations {
		p := api.Program{Exns: exns(d...), Body: x}
		at, e := scope.Closed(p)
		if wantAt, want := closedOf(p); at != wantAt || e != want {
			t.Fatalf("P7.1: Closed of %v with %q = %d %d, want %d %d", x, d, at, e, wantAt, want)
		}
		all := len(free) == 0
		for _, s := range named {
			all = all && slices.Contains(d, s)
		}
		if (e == api.OK) != all {
			t.Fatalf("P7.2: Closed of %v with %q = %d, with %q free, and %q named", x, d, e, free, named)
		}
	}
}

// TestSentence has what the chapter's sentence tells, told once more by hand.
func TestSentence(t *testing.T) {
	want := []binding{{11, "Arg", 0}, {12, "Name", 1}, {13, "Name", 0}, {13, "Name", 1}, {13, "Arg", 0}, {16, "Arg", 1}}
	if !slices.Equal(bindings, want) {
		t.Error("the sentence is read as", bindings)
	}
}

// TestBound has each kind with one name in one of its kids: whether it is bound there.
func TestBound(t *testing.T) {
	for _, r := range kindRows {
		for _, h := range r.heads([]string{"f", "x"}, []string{"E"}) {
			for kid := range r.kids {
				for _, s := range []string{"f", "x", "y", "ff", "X"} {
					kids := slices.Repeat([]api.Term{num()}, r.kids)
					kids[kid] = name(s)
					kids[kid].At = 9
					isBound := false
					switch r.name {
					case "KFn":
						isBound = s == h.Arg
					case "KLet":
						isBound = s == h.Name && kid == 1
					case "KLetrec":
						isBound = s == h.Name || s == h.Arg && kid == 0
					case "KTry":
						isBound = s == h.Arg && kid == 1
					}
					x := node(h, kids...)
					at, e := scope.Closed(api.Program{Exns: exns("E"), Body: x})
					free := scope.Free(x)
					switch {
					case s == "X": // no name, so that it may not be
						if at != 0 || e != api.ErrArg || len(free) != 0 {
							t.Errorf("P7.1: %s with a kid that may not be: %d %d %q", r.name, at, e, free)
						}
					case isBound:
						if at != 0 || e != api.OK || len(free) != 0 {
							t.Errorf("P7.1: %s %q %q binds %s in its kid %d: %d %d %q", r.name, h.Name, h.Arg, s, kid, at, e, free)
						}
					default:
						if at != 9 || e != api.ErrScope || !slices.Equal(free, []string{s}) {
							t.Errorf("P7.1: %s %q %q doesn't bind %s in its kid %d: %d %d %q", r.name, h.Name, h.Arg, s, kid, at, e, free)
						}
					}
				}
			}
		}
	}
}

// TestNamesOfHeadsAreNoVars has names that are bound, and used nowhere: they are neither free, nor exceptions.
func TestNamesOfHeadsAreNoVars(t *testing.T) {
	for _, s := range []string{"fn x => 1", "let x = 1 in 2", "letrec f x = 1 in 2", "letrec x x = 1 in 2", "1", "( 1 , 2 )"} {
		x := read(t, s)
		if f, n := scope.Free(x), scope.Exns(x); len(f) != 0 || len(n) != 0 {
			t.Errorf("P7.1: of %s: %q %q", s, f, n)
		}
	}
	if f := scope.Free(read(t, "try 1 with E x => 2")); len(f) != 0 {
		t.Errorf("P7.1: a handler's name is free: %q", f)
	}
	if n := scope.Exns(read(t, "raise E 1")); !slices.Equal(n, []string{"E"}) {
		t.Errorf("P7.1: Exns of raise = %q", n)
	}
	if n := scope.Exns(read(t, "try 1 with E x => 2")); !slices.Equal(n, []string{"E"}) {
		t.Errorf("P7.1: Exns of try = %q", n)
	}
}

// smallTerms are all terms of just n nodes, by how many nodes they have, of these names and exceptions.
func smallTerms(most int, rows []kindRow, names, exns []string) [][]api.Term {
	all := [][]api.Term{nil}
	for n := 1; n <= most; n++ {
		var l []api.Term
		for _, r := range rows {
			for _, h := range r.heads(names, exns) {
				for _, kids := range kidsOf(all, r.kids, n-1) {
					l = append(l, node(h, kids...))
				}
			}
		}
		all = append(all, l)
	}
	return all
}

// kidsOf are all rows of so many kids with so many nodes together.
func kidsOf(all [][]api.Term, kids, nodes int) [][]api.Term {
	if kids == 0 {
		if nodes == 0 {
			return [][]api.Term{nil}
		}
		return nil
	}
	var l [][]api.Term
	for n := 1; n <= nodes && n < len(all); n++ {
		rest := kidsOf(all, kids-1, nodes-n)
		for _, first := range all[n] {
			for _, r := range rest {
				l = append(l, append([]api.Term{first}, r...))
			}
		}
	}
	return l
}

func TestAllSmallTerms(t *testing.T) {
	for _, l := range smallTerms(4, kindRows, []string{"x", "y"}, []string{"E", "F"}) {
		for _, x := range l {
			holds(t, scattered(x))
		}
	}
}

// TestAllNestedBindings has terms of the kinds that tell names or exceptions, and of pairs, one deeper.
func TestAllNestedBindings(t *testing.T) {
	rows := slices.DeleteFunc(slices.Clone(kindRows), func(r kindRow) bool {
		return !slices.Contains([]uint8{2, 3, 11, 12, 13, 15, 16}, r.kind)
	})
	for _, l := range smallTerms(5, rows, []string{"x", "y"}, []string{"E"}) {
		for _, x := range l {
			holds(t, scattered(x))
		}
	}
	rows = slices.DeleteFunc(rows, func(r kindRow) bool { return r.kind == 15 || r.kind == 16 })
	for _, x := range smallTerms(6, rows, []string{"x"}, nil)[6] {
		holds(t, scattered(x))
	}
}

// grown is a term of about so many nodes, of whatever kinds and names.
func grown(r *rand.Rand, nodes int) api.Term {
	names, exns := []string{"x", "y", "z", "f", "g", "xx", "fG1", "abcdefghijklmnop"}, []string{"E", "F", "G", "E1"}
	if nodes <= 1 {
		if r.Intn(4) == 0 {
			return num()
		}
		return name(names[r.Intn(len(names))])
	}
	row := kindRows[2+r.Intn(len(kindRows)-2)]
	l := row.heads(names, exns)
	x := node(l[r.Intn(len(l))])
	left := nodes - 1
	for i := range row.kids {
		n := left
		if i < row.kids-1 {
			n = r.Intn(left + 1)
		}
		left -= n
		x.Kids = append(x.Kids, grown(r, n))
	}
	return x
}

func TestGrownTerms(t *testing.T) {
	r := rand.New(rand.NewSource(7))
	for range 6000 {
		holds(t, scattered(grown(r, 1+r.Intn(60))))
	}
	for range 60 {
		holds(t, scattered(grown(r, 1000)))
	}
}

// TestSeveralTerms has terms side by side: none binds anything in another one, and each text is told once.
func TestSeveralTerms(t *testing.T) {
	r := rand.New(rand.NewSource(8))
	for range 3000 {
		var l []api.Term
		for range r.Intn(6) {
			l = append(l, grown(r, 1+r.Intn(12)))
		}
		if got, want := scope.Free(l...), freeOf(l...); !slices.Equal(got, want) {
			t.Fatalf("P7.1: Free of %v = %q, want %q", l, got, want)
		}
		if got, want := scope.Exns(l...), exnsOf(l...); !slices.Equal(got, want) {
			t.Fatalf("P7.1: Exns of %v = %q, want %q", l, got, want)
		}
	}
	a, b := read(t, "let x = raise F z in x y"), read(t, "try raise E x with F y => y z w")
	for _, c := range []struct {
		l          []api.Term
		free, exns []string
	}{
		{[]api.Term{a, b}, []string{"z", "y", "x", "w"}, []string{"F", "E"}},
		{[]api.Term{b, a}, []string{"x", "z", "w", "y"}, []string{"F", "E"}},
		{[]api.Term{b.Kids[0], a}, []string{"x", "z", "y"}, []string{"E", "F"}},
		{[]api.Term{a, a, a}, []string{"z", "y"}, []string{"F"}},
		{[]api.Term{num(), num()}, nil, nil},
		{[]api.Term{read(t, "fn x => x"), name("x")}, []string{"x"}, nil},
		{[]api.Term{name("x"), read(t, "fn x => x")}, []string{"x"}, nil},
		{nil, nil, nil},
		{[]api.Term{}, nil, nil},
	} {
		if got := scope.Free(c.l...); !slices.Equal(got, c.free) {
			t.Errorf("P7.1: Free = %q, want %q", got, c.free)
		}
		if got := scope.Exns(c.l...); !slices.Equal(got, c.exns) {
			t.Errorf("P7.1: Exns = %q, want %q", got, c.exns)
		}
	}
}

func TestTexts(t *testing.T) {
	for _, c := range []struct {
		s  string
		at int
		e  api.Errno
	}{
		{"1", 0, api.OK}, {"exn E ; 1", 0, api.OK}, {"x", 0, api.ErrScope}, {"  x", 2, api.ErrScope}, {"(((x)))", 3, api.ErrScope},
		{"fn x => y x", 8, api.ErrScope}, {"fn x => x", 0, api.OK}, {"fn x => fn y => x y", 0, api.OK}, {"fn x => fn y => z", 16, api.ErrScope}, {"fn x => fn x => x", 0, api.OK},
		{"( fn x => x ) x", 14, api.ErrScope}, {"x ( fn x => x )", 0, api.ErrScope}, {"( fn x => x , x )", 14, api.ErrScope},
		{"let x = 1 in x", 0, api.OK}, {"let x = x in 1", 8, api.ErrScope}, {"let x = 1 in let x = x in x", 0, api.OK}, {"( let x = 1 in x ) + x", 21, api.ErrScope}, {"let x = let y = 1 in y in y", 26, api.ErrScope},
		{"letrec f x = f x in f 1", 0, api.OK}, {"letrec f x = f x in f x", 22, api.ErrScope}, {"letrec f x = g x in f", 13, api.ErrScope}, {"letrec x x = x in x", 0, api.OK}, {"( letrec f x = 1 in f ) f", 24, api.ErrScope}, {"letrec f x = letrec g y = f ( g ( x y ) ) in g in f", 0, api.OK}, {"letrec f x = letrec g y = 1 in y in f", 31, api.ErrScope},
		{"exn E ; try 1 with E x => x", 0, api.OK}, {"exn E ; try x with E x => x", 12, api.ErrScope}, {"exn E ; ( try 1 with E x => x ) x", 32, api.ErrScope}, {"exn E ; try 1 with E x => e", 26, api.ErrScope},
		{"raise E 1", 0, api.ErrScope}, {"try 1 with E x => x", 0, api.ErrScope}, {"exn E ; exn F ; try raise E 1 with F x => raise E x", 0, api.OK}, {"exn E ; try raise F 1 with E x => 1", 12, api.ErrScope}, {"exn F ; try raise F 1 with E x => 1", 8, api.ErrScope}, {"exn E ; try 1 with E x => raise F x", 26, api.ErrScope}, {"exn E ; raise E x", 16, api.ErrScope}, {"exn E ; raise F x", 8, api.ErrScope}, {"exn E1 ; raise E 1", 9, api.ErrScope}, {"exn E ; raise E1 1", 8, api.ErrScope},
		{"exn E ; exn E ; 1", 12, api.ErrScope}, {"exn E ; exn F ; exn E ; exn F ; x", 20, api.ErrScope}, {"exn E ; exn F ; exn G ; x", 24, api.ErrScope}, {"exn E ; exn E ; raise F x", 12, api.ErrScope}, {"exn E ; exn E ; exn E ; 1", 12, api.ErrScope},
		{"if x then y else z", 3, api.ErrScope}, {"if 1 then y else z", 10, api.ErrScope}, {"if 1 then 2 else z", 17, api.ErrScope}, {"x := y", 0, api.ErrScope}, {"1 := y", 5, api.ErrScope}, {"! ref x", 6, api.ErrScope}, {"fst ( 1 , snd x )", 14, api.ErrScope},
		{"let a = ( 1 , 2 ) in fn x => fst a", 0, api.OK}, {"exn E ; try raise E 3 with E x => x + 1", 0, api.OK},
	} {
		p, _, e := parse.Parse([]byte(c.s))
		if at, f := scope.Closed(p); e != api.OK || at != c.at || f != c.e {
			t.Errorf("P7.1: Closed of %s = %d %d, want %d %d", c.s, at, f, c.at, c.e)
		}
	}
}

// TestFirstNodeNotFirstPlace has nodes whose places don't grow: the first one in order is told, a node ahead of its kids.
func TestFirstNodeNotFirstPlace(t *testing.T) {
	at := func(x api.Term, at int) api.Term {
		x.At = at
		return x
	}
	raise := node(api.Head{Kind: 15, Exn: "E", At: 50}, at(name("x"), 10))
	for _, c := range []struct {
		body api.Term
		exns []api.Token
		at   int
	}{
		{of(3, at(name("x"), 90), at(name("y"), 3)), nil, 90},
		{of(3, at(name("y"), 3), at(name("x"), 90)), nil, 3},
		{of(14, num(), at(name("x"), 2), at(name("y"), 1)), nil, 2},
		{raise, nil, 50},
		{raise, exns("E"), 10},
		{of(3, raise, at(name("y"), 1)), exns("E"), 10},
		{of(3, at(name("y"), 0), raise), nil, 0},
		{of(3, num(), raise), nil, 50},
		{node(api.Head{Kind: 16, Exn: "F", Arg: "x", At: 70}, raise, at(name("z"), 5)), exns("E"), 70},
		{node(api.Head{Kind: 16, Exn: "F", Arg: "x", At: 70}, raise, at(name("z"), 5)), exns("F"), 50},
		{node(api.Head{Kind: 16, Exn: "F", Arg: "x", At: 70}, num(), at(name("z"), 5)), exns("F"), 5},
	} {
		if at, e := scope.Closed(api.Program{Exns: c.exns, Body: c.body}); at != c.at || e != api.ErrScope {
			t.Errorf("P7.1: Closed of %v = %d %d, want %d", c.body, at, e, c.at)
		}
	}
}

func TestHowManyExceptions(t *testing.T) {
	for n := range 200 {
		p := api.Program{Exns: exns(manyExns(n)...), Body: num()}
		wantAt, want := 0, api.OK
		if n > 64 {
			wantAt, want = 1064, api.ErrLong
		}
		if at, e := scope.Closed(p); at != wantAt || e != want {
			t.Errorf("P7.1, P7.2: Closed with %d exceptions = %d %d", n, at, e)
		}
		p.Body = name("x")
		p.Body.At = 5
		if n <= 64 {
			wantAt, want = 5, api.ErrScope
		}
		if at, e := scope.Closed(p); at != wantAt || e != want {
			t.Errorf("P7.1: Closed with %d exceptions, and a name that is free = %d %d", n, at, e)
		}
	}
	if api.MaxExns != 64 {
		t.Error("P7.1: MaxExns", api.MaxExns)
	}
}

// TestSameExceptions has each exception as each one behind it, too.
func TestSameExceptions(t *testing.T) {
	for _, n := range []int{2, 3, 5, 63, 64, 65, 66, 70} {
		for j := range n {
			for i := range j {
				l := manyExns(n)
				l[j] = l[i]
				wantAt, want := 1000+j, api.ErrScope
				if n > 64 {
					wantAt, want = 1064, api.ErrLong
				}
				for _, body := range []api.Term{num(), name("x"), node(api.Head{Kind: 15, Exn: "F"}, num())} {
					if at, e := scope.Closed(api.Program{Exns: exns(l...), Body: body}); at != wantAt || e != want {
						t.Fatalf("P7.1, P7.2: Closed with %d exceptions, %d the same as %d = %d %d", n, j, i, at, e)
					}
				}
			}
		}
	}
	for _, c := range []struct {
		l  []string
		at int
	}{
		{[]string{"E", "E", "E"}, 1001}, {[]string{"E", "F", "F", "E"}, 1002}, {[]string{"E", "F", "E", "F"}, 1002}, {[]string{"E", "F", "G", "E", "E"}, 1003},
	} {
		if at, e := scope.Closed(api.Program{Exns: exns(c.l...), Body: num()}); at != c.at || e != api.ErrScope {
			t.Errorf("P7.1: Closed with %q = %d %d", c.l, at, e)
		}
	}
	back := exns("E", "F", "E")
	back[0].At, back[1].At, back[2].At = 30, 20, 10
	if at, e := scope.Closed(api.Program{Exns: back, Body: num()}); at != 10 || e != api.ErrScope {
		t.Error("P7.1: places of exceptions that don't grow", at, e)
	}
	if at, e := scope.Closed(api.Program{Exns: exns("E", "EE", "E1", "Ee", "F"), Body: num()}); at != 0 || e != api.OK {
		t.Error("P7.2: exceptions that begin alike are others", at, e)
	}
}

// TestOnlyTextsOfExceptionsCount has exceptions' tokens of whatever kinds, places and texts: these are held against each other, and against what is raised and caught, as they are.
func TestOnlyTextsOfExceptionsCount(t *testing.T) {
	raise := node(api.Head{Kind: 15, Exn: "E", At: 7}, num())
	for _, c := range []struct {
		exns []api.Token
		body api.Term
		at   int
		e    api.Errno
	}{
		{[]api.Token{{}}, num(), 0, api.OK},
		{[]api.Token{{}, {At: 9}}, num(), 9, api.ErrScope},
		{[]api.Token{{}}, raise, 7, api.ErrScope},
		{[]api.Token{{}}, of(3, name("x"), raise), 0, api.ErrScope},
		{[]api.Token{{}, {Text: "E"}}, of(3, num(), raise), 0, api.OK},
		{[]api.Token{{Kind: 255, Text: "E"}}, raise, 0, api.OK},
		{[]api.Token{{Kind: 3, Text: "E"}, {Kind: 4, Text: "E", At: 11}}, raise, 11, api.ErrScope},
		{[]api.Token{{Kind: 3, Text: "E", At: 4}, {Kind: 3, Text: "F", At: 4}}, raise, 0, api.OK},
		{[]api.Token{{Kind: 3, Text: "E "}, {Kind: 3, Text: "e"}}, raise, 7, api.ErrScope},
		{[]api.Token{{Kind: 3, Text: "x"}}, node(api.Head{Kind: 2, Name: "x", At: 8}), 8, api.ErrScope},
	} {
		if at, e := scope.Closed(api.Program{Exns: c.exns, Body: c.body}); at != c.at || e != c.e {
			t.Errorf("P7.1: Closed with %+v = %d %d, want %d %d", c.exns, at, e, c.at, c.e)
		}
	}
}

// TestEachIsDeclared has each of 64 exceptions raised, and caught.
func TestEachIsDeclared(t *testing.T) {
	l := manyExns(64)
	for i, s := range l {
		raise := node(api.Head{Kind: 15, Exn: s, At: 3}, num())
		for _, x := range []api.Term{raise, node(api.Head{Kind: 16, Exn: s, Arg: "x", At: 3}, num(), num())} {
			if at, e := scope.Closed(api.Program{Exns: exns(l...), Body: x}); at != 0 || e != api.OK {
				t.Error("P7.2: Closed of what is declared", s, at, e)
			}
			if at, e := scope.Closed(api.Program{Exns: exns(slices.Delete(slices.Clone(l), i, i+1)...), Body: x}); at != 3 || e != api.ErrScope {
				t.Error("P7.2: Closed of what isn't declared", s, at, e)
			}
		}
	}
}

// wrong are terms that may not be, each with a name that is free and an exception in it, as far as that can be.
func wrong() []api.Term {
	raise := node(api.Head{Kind: 15, Exn: "E"}, name("x"))
	bad := []api.Term{
		{}, of(0), of(17, raise), of(18, raise), of(255, raise, raise),
		of(3), of(3, raise), of(3, raise, raise, raise), of(10, raise), of(14, raise, raise), of(4), of(4, raise, raise),
		of(2), node(api.Head{Kind: 2, Name: "in"}), node(api.Head{Kind: 2, Name: "X"}), node(api.Head{Kind: 2, Name: "x", Exn: "E"}), node(api.Head{Kind: 2, Name: "x"}, raise), node(api.Head{Kind: 2, Name: "x", At: -1}),
		node(api.Head{Kind: 1, N: -1}), node(api.Head{Kind: 1, N: 1 << 31}), node(api.Head{Kind: 1, Name: "x"}), node(api.Head{Kind: 9}, raise, raise), node(api.Head{Kind: 9, Op: 6}, raise, raise),
		node(api.Head{Kind: 11}, raise), node(api.Head{Kind: 11, Arg: "E"}, raise), node(api.Head{Kind: 11, Arg: "x"}), node(api.Head{Kind: 11, Arg: "x"}, raise, raise),
		node(api.Head{Kind: 12}, raise, raise), node(api.Head{Kind: 12, Name: "y"}, raise), node(api.Head{Kind: 12, Name: "y", Arg: "y"}, raise, raise),
		node(api.Head{Kind: 13, Name: "f"}, raise, raise), node(api.Head{Kind: 13, Arg: "f"}, raise, raise), node(api.Head{Kind: 13, Name: "f", Arg: "y"}, raise),
		node(api.Head{Kind: 15}, name("x")), node(api.Head{Kind: 15, Exn: "e"}, name("x")), node(api.Head{Kind: 15, Exn: "E"}), node(api.Head{Kind: 15, Exn: "E"}, name("x"), name("x")),
		node(api.Head{Kind: 16, Exn: "E"}, raise, raise), node(api.Head{Kind: 16, Arg: "y"}, raise, raise), node(api.Head{Kind: 16, Exn: "E", Arg: "y"}, raise), node(api.Head{Kind: 16, Exn: "E", Arg: "y"}),
	}
	long := name("x")
	for range api.MaxNodes {
		long = of(4, long)
	}
	ring := make([]api.Term, 1)
	ring[0] = node(api.Head{Kind: 11, Arg: "y"}, ring...)
	ring[0].Kids = ring
	return append(bad, long, ring[0])
}

func TestWhatMayNotBe(t *testing.T) {
	good := read(t, "try raise E x with F y => z")
	for i, x := range wrong() {
		for _, body := range []api.Term{x, of(3, name("x"), x), of(3, x, name("x")), node(api.Head{Kind: 11, Arg: "x"}, node(api.Head{Kind: 15, Exn: "G"}, x))} {
			for _, declared := range [][]string{nil, {"E"}, {"E", "E"}, manyExns(65)} {
				if at, e := scope.Closed(api.Program{Exns: exns(declared...), Body: body}); at != 0 || e != api.ErrArg {
					t.Errorf("P7.1: Closed of the wrong term %d with %d exceptions = %d %d", i, len(declared), at, e)
				}
			}
			for _, l := range [][]api.Term{{body}, {body, good}, {good, body}, {good, body, good}, {body, body}} {
				if free, named := scope.Free(l...), scope.Exns(l...); len(free) != 0 || len(named) != 0 {
					t.Errorf("P7.1: of the wrong term %d among %d: %q %q", i, len(l), free, named)
				}
			}
		}
	}
	if at, e := scope.Closed(api.Program{}); at != 0 || e != api.ErrArg {
		t.Error("P7.1: Closed of nothing", at, e)
	}
}

// deep has just 4000 nodes, one in the other, of a kind that binds, each with a name of its own; at its end stands a name.
func deep(h api.Head, kid int, end string) api.Term {
	x := name(end)
	x.At = 4000
	left := 3999
	if h.Kind != 11 {
		left = 1999
	}
	for i := range left {
		h.At = i
		h.Name, h.Arg = numbered(h.Name, i), numbered(h.Arg, i)
		kids := []api.Term{num(), num()}
		kids[kid] = x
		if h.Kind == 11 {
			kids = []api.Term{x}
		}
		x = node(h, kids...)
	}
	return x
}

// numbered is a name with a number behind its first letter; no name stays none.
func numbered(s string, i int) string {
	if s == "" {
		return ""
	}
	return fmt.Sprint(s[:1], i)
}

func TestDeepTerms(t *testing.T) {
	for _, c := range []struct {
		h    api.Head
		kid  int
		name string // the first letter of the names that are bound there
	}{
		{api.Head{Kind: 11, Arg: "a"}, 0, "a"}, {api.Head{Kind: 12, Name: "b"}, 1, "b"}, {api.Head{Kind: 12, Name: "b"}, 0, ""},
		{api.Head{Kind: 13, Name: "c", Arg: "d"}, 0, "cd"}, {api.Head{Kind: 13, Name: "c", Arg: "d"}, 1, "c"}, {api.Head{Kind: 16, Exn: "E", Arg: "e"}, 1, "e"}, {api.Head{Kind: 16, Exn: "E", Arg: "e"}, 0, ""},
	} {
		for _, letter := range []string{"a", "b", "c", "d", "e"} {
			for _, i := range []int{0, 1, 1000, 1998, 3998} {
				s := numbered(letter, i)
				x := deep(c.h, c.kid, s)
				most := 1999
				if c.h.Kind == 11 {
					most = 3999
				}
				isBound := strings.Contains(c.name, letter) && i < most
				at, e := scope.Closed(api.Program{Exns: exns("E"), Body: x})
				free := scope.Free(x)
				if isBound && (at != 0 || e != api.OK || len(free) != 0) || !isBound && (at != 4000 || e != api.ErrScope || !slices.Equal(free, []string{s})) {
					t.Errorf("P7.1: %s, deep in the kid %d of kind %d: %d %d %q", s, c.kid, c.h.Kind, at, e, free)
				}
			}
		}
	}
}

// TestMostNodes has 1334 names and 1333 exceptions, each another one, in a term of just as many nodes as there may be.
func TestMostNodes(t *testing.T) {
	x := name("x0")
	names, named := []string{"x0"}, []string(nil)
	for i := 1; i < 1334; i++ {
		s := fmt.Sprint("x", i)
		names, named = append(names, s), append(named, fmt.Sprint("E", i))
		x = of(10, x, node(api.Head{Kind: 15, Exn: named[i-1]}, name(s)))
	}
	if n := term.Size(x); n != api.MaxNodes {
		t.Fatal("nodes", n)
	}
	if got := scope.Free(x); !slices.Equal(got, names) {
		t.Errorf("P7.1: Free of many = %d names", len(got))
	}
	if got := scope.Exns(x); !slices.Equal(got, named) {
		t.Errorf("P7.1: Exns of many = %d exceptions", len(got))
	}
	if got := scope.Free(x, x, name("y")); !slices.Equal(got, append(names, "y")) {
		t.Errorf("P7.1: Free of several, great ones = %d names", len(got))
	}
	if got := scope.Exns(of(3, x, x)); len(got) != 0 {
		t.Errorf("P7.1: Exns of too many nodes = %d exceptions", len(got))
	}
}

// clone is a term that shares no memory with another one.
func clone(t api.Term) api.Term {
	kids := t.Kids
	t.Kids = nil
	for _, k := range kids {
		t.Kids = append(t.Kids, clone(k))
	}
	return t
}

func TestArgumentsStay(t *testing.T) {
	room := []api.Term{read(t, "fn x => try raise E y with F z => x z"), name("w"), {}, node(api.Head{Kind: 15, Exn: "G"}, num())}
	var before []api.Term
	for _, x := range room {
		before = append(before, clone(x))
	}
	tokens := exns("E", "F", "F", "E")
	declared := slices.Clone(tokens)
	closed := api.Program{Exns: tokens[:2], Body: read(t, "fn x => try raise E x with F z => x z")}
	for range 2 { // what was asked ahead counts for nothing
		if at, e := scope.Closed(closed); at != 0 || e != api.OK {
			t.Error("P0.4: what stands behind the list's end counts", at, e)
		}
		if got := scope.Free(room[:1]...); !slices.Equal(got, []string{"y"}) {
			t.Errorf("P0.4: Free with room behind the list's end = %q", got)
		}
		if got := scope.Exns(room[:2]...); !slices.Equal(got, []string{"F", "E"}) {
			t.Errorf("P0.4: Exns with room behind the list's end = %q", got)
		}
		scope.Free(room...)
		scope.Exns(room...)
		scope.Closed(api.Program{Exns: tokens, Body: room[0]})
		if !reflect.DeepEqual(room, before) || !slices.Equal(tokens, declared) {
			t.Fatal("P0.4: what was handed in is changed")
		}
	}
	tokens[0].Text = "G"
	if at, e := scope.Closed(closed); at != closed.Body.Kids[0].Kids[0].At || e != api.ErrScope {
		t.Error("P0.4, P0.6: what was handed in is kept", at, e)
	}
}

func TestAnswersAreNewMemory(t *testing.T) {
	x := read(t, "try raise E y with F z => x ( z w )")
	for _, ask := range []func(...api.Term) []string{scope.Free, scope.Exns} {
		first, second := ask(x), ask(x)
		want := slices.Clone(first)
		for i := range first {
			first[i] = "none"
		}
		_ = append(first, "more")
		if len(want) < 2 || !slices.Equal(second, want) || !slices.Equal(ask(x), want) {
			t.Errorf("P0.4: two answers share memory: %q %q", second, want)
		}
	}
}
