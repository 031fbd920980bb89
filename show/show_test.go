package show_test

import (
	"math/rand"
	"reflect"
	"slices"
	"strings"
	"testing"

	"enclave/api"
	"enclave/parse"
	"enclave/show"
	"enclave/term"
	"enclave/token"
)

// node is a term of a head and kids.
func node(h api.Head, kids ...api.Term) api.Term { return api.Term{Head: h, Kids: kids} }

// of is a term of a kind and kids.
func of(kind uint8, kids ...api.Term) api.Term { return node(api.Head{Kind: kind}, kids...) }

// op is a term of an operation.
func op(which uint8, a, b api.Term) api.Term { return node(api.Head{Kind: 9, Op: which}, a, b) }

func num(n int64) api.Term { return node(api.Head{Kind: 1, N: n}) }

func name(s string) api.Term { return node(api.Head{Kind: 2, Name: s}) }

// holds holds Term and Program of a term against the tables, and what is shown against what is read of it. It stops at the first fault: where many terms are gone through, more of them tell nothing new.
func holds(t *testing.T, x api.Term) {
	t.Helper()
	want := textOf(x)
	if got, e := show.Term(x); got != want || e != api.OK {
		t.Fatalf("P6.1: Term = %d %.300q, want %.300q", e, got, want)
	}
	if got, e := show.Program(api.Program{Body: x}); got != want || e != api.OK {
		t.Fatalf("P6.1: Program = %d %.300q, want %.300q", e, got, want)
	}
	back, _, e := parse.Term([]byte(want))
	if e == api.ErrLong && tooLong(want) {
		return
	}
	if e != api.OK || !term.Same(back, x) {
		t.Fatalf("P6.2: what is shown as %.300q isn't read as it: %d", want, e)
	}
	if again, e := show.Term(back); again != want || e != api.OK {
		t.Fatalf("P6.2: what is read of %.300q is shown as %.300q %d", want, again, e)
	}
}

// tooLong tells whether a text, with blanks between its tokens, is too long to be read.
func tooLong(s string) bool { return len(s) > 1<<16 || len(strings.Fields(s)) > 4000 }

// shows holds what is shown of a term against a text.
func shows(t *testing.T, x api.Term, want string) {
	t.Helper()
	if got, e := show.Term(x); got != want || e != api.OK {
		t.Errorf("P6.1: Term = %d %q, want %q", e, got, want)
	}
}

func TestKinds(t *testing.T) {
	a, b, c := name("a"), name("b"), name("c")
	for _, x := range []struct {
		t    api.Term
		want string
	}{
		{num(5), "5"}, {num(0), "0"}, {num(10), "10"}, {num(2147483647), "2147483647"},
		{name("x"), "x"}, {name("xY9"), "xY9"}, {name("abcdefghijklmnop"), "abcdefghijklmnop"}, {name("in1"), "in1"},
		{of(3, a, b), "( a , b )"}, {of(4, a), "fst a"}, {of(5, a), "snd a"}, {of(6, a), "ref a"}, {of(7, a), "! a"}, {of(8, a, b), "a := b"},
		{op(1, a, b), "a + b"}, {op(2, a, b), "a - b"}, {op(3, a, b), "a * b"}, {op(4, a, b), "a < b"}, {op(5, a, b), "a = b"}, {of(10, a, b), "a b"},
		{node(api.Head{Kind: 11, Arg: "x"}, a), "fn x => a"},
		{node(api.Head{Kind: 12, Name: "x"}, a, b), "let x = a in b"},
		{node(api.Head{Kind: 13, Name: "f", Arg: "x"}, a, b), "letrec f x = a in b"},
		{of(14, a, b, c), "if a then b else c"},
		{node(api.Head{Kind: 15, Exn: "E"}, a), "raise E a"},
		{node(api.Head{Kind: 16, Exn: "Abcdefghijklmnop", Arg: "x"}, a, b), "try a with Abcdefghijklmnop x => b"},
	} {
		shows(t, x.t, x.want)
		holds(t, x.t)
	}
}

// TestBrackets has the text that is shown for each one that is read: of texts that mean the same it is always the same one.
func TestBrackets(t *testing.T) {
	for _, x := range []struct{ read, want string }{
		{"((x))", "x"}, {"(7)", "7"}, {"((a), (b))", "( a , b )"}, {"(((a, b)))", "( a , b )"}, {"((a, b), (c, d))", "( ( a , b ) , ( c , d ) )"},
		{"( fn x => x ) 1", "( fn x => x ) 1"}, {"( f x ) y", "f x y"}, {"f ( x y )", "f ( x y )"}, {"(f)(x)", "f x"}, {"f (a, b)", "f ( a , b )"}, {"(a, b) c", "( a , b ) c"},
		{"f (! x)", "f ! x"}, {"(! f) x", "! f x"}, {"! (f x)", "! ( f x )"}, {"f (raise E x)", "f raise E x"}, {"(raise E f) x", "raise E f x"}, {"raise E (f x)", "raise E ( f x )"}, {"(fst f) (snd x)", "fst f snd x"},
		{"f (fn x => x)", "f ( fn x => x )"}, {"f (a := b)", "f ( a := b )"}, {"(a * b) c", "( a * b ) c"}, {"f (a * b)", "f ( a * b )"},
		{"fst (snd (ref (! (raise E (raise F x)))))", "fst snd ref ! raise E raise F x"}, {"! (a, b)", "! ( a , b )"}, {"ref (fn x => x)", "ref ( fn x => x )"}, {"! (a + b)", "! ( a + b )"}, {"raise E (let x = 1 in x)", "raise E ( let x = 1 in x )"}, {"ref (a = b)", "ref ( a = b )"}, {"fst (a := b)", "fst ( a := b )"}, {"snd (a * b)", "snd ( a * b )"}, {"raise E (1 - 2)", "raise E ( 1 - 2 )"},
		{"(a - b) - c", "a - b - c"}, {"a - (b - c)", "a - ( b - c )"}, {"(a + b) - c", "a + b - c"}, {"a + (b + c)", "a + ( b + c )"}, {"(a * b) * c", "a * b * c"}, {"a * (b * c)", "a * ( b * c )"},
		{"(a * b) + (c * d)", "a * b + c * d"}, {"(a + b) * (c + d)", "( a + b ) * ( c + d )"}, {"(a b) * (c d)", "a b * c d"}, {"(f a) + (! b)", "f a + ! b"}, {"a + (b < c)", "a + ( b < c )"}, {"(a = b) - c", "( a = b ) - c"}, {"(a := b) + (c := d)", "( a := b ) + ( c := d )"}, {"(fn x => x) * (fn y => y)", "( fn x => x ) * ( fn y => y )"},
		{"(a - b) < (c - d)", "a - b < c - d"}, {"(a < b) < c", "( a < b ) < c"}, {"a = (b = c)", "a = ( b = c )"}, {"(a < b) = (c < d)", "( a < b ) = ( c < d )"}, {"(a := b) = c", "( a := b ) = c"}, {"(a * b) = (c d)", "a * b = c d"}, {"a < (if b then c else d)", "a < ( if b then c else d )"},
		{"(a = b) := (c < d)", "a = b := c < d"}, {"(a := b) := c", "( a := b ) := c"}, {"a := (b := c)", "a := ( b := c )"}, {"(a + b) := (c d)", "a + b := c d"}, {"(fn x => x) := (try a with E x => b)", "( fn x => x ) := ( try a with E x => b )"},
		{"fn x => (a := b)", "fn x => a := b"}, {"fn x => (fn y => x)", "fn x => fn y => x"}, {"(fn x => a) b", "( fn x => a ) b"}, {"let x = (let y = a in b) in (let z = c in d)", "let x = let y = a in b in let z = c in d"}, {"let x = (a := b) in (c := d)", "let x = a := b in c := d"}, {"let x = (a = b) in (c = d)", "let x = a = b in c = d"},
		{"letrec f x = (fn y => x) in (letrec g y = (f y) in (g f))", "letrec f x = fn y => x in letrec g y = f y in g f"},
		{"if (if a then b else c) then (if d then e else f) else (if g then h else i)", "if if a then b else c then if d then e else f else if g then h else i"}, {"if (a := b) then (fn x => x) else (let x = a in b)", "if a := b then fn x => x else let x = a in b"},
		{"try (try a with E x => b) with F y => (try c with E x => d)", "try try a with E x => b with F y => try c with E x => d"}, {"try (fn x => x) with E y => (fn z => z)", "try fn x => x with E y => fn z => z"},
		{"((fn x => x), (let y = 1 in y))", "( fn x => x , let y = 1 in y )"}, {"((a := b), (c = d))", "( a := b , c = d )"}, {"((a + b), (c d))", "( a + b , c d )"},
	} {
		tree, _, e := parse.Term([]byte(x.read))
		if e != api.OK {
			t.Fatal("not read:", x.read)
		}
		shows(t, tree, x.want)
		holds(t, tree)
	}
}

// bracketPairs are the places of a text's words at which brackets open, and close.
func bracketPairs(l []string) [][2]int {
	var open []int
	var pairs [][2]int
	for i, w := range l {
		switch w {
		case "(":
			open = append(open, i)
		case ")":
			pairs = append(pairs, [2]int{open[len(open)-1], i})
			open = open[:len(open)-1]
		}
	}
	return pairs
}

// needs holds that without any of its brackets a term's text is read as something else, or not at all.
func needs(t *testing.T, x api.Term) {
	t.Helper()
	s, _ := show.Term(x)
	l := strings.Fields(s)
	for _, p := range bracketPairs(l) {
		less := slices.Concat(l[:p[0]], l[p[0]+1:p[1]], l[p[1]+1:])
		if back, _, e := parse.Term([]byte(strings.Join(less, " "))); e == api.OK && term.Same(back, x) {
			t.Fatalf("P6.1: brackets that needn't be: %q", s)
		}
	}
}

// leaves are different names, so that no two kids are the same.
func leaves(n int) []api.Term {
	var l []api.Term
	for i := range n {
		l = append(l, name(string(rune('p'+i))))
	}
	return l
}

// kidOfEach calls see with a term of each kind that has a kid, in each kid's place.
func kidOfEach(kid api.Term, see func(t api.Term)) {
	hs, kids := allHeads, allKids
	for i, h := range hs {
		for j := range kids[i] {
			l := leaves(kids[i])
			l[j] = kid
			see(node(h, l...))
		}
	}
}

// TestEachKindInEachOther has all kinds in all places of all others, and those again in all.
func TestEachKindInEachOther(t *testing.T) {
	hs, kids := allHeads, allKids
	if len(hs) != 20 {
		t.Fatal("not all kinds and operations", len(hs))
	}
	seen := 0
	for i, h := range hs {
		kidOfEach(node(h, leaves(kids[i])...), func(x api.Term) {
			holds(t, x)
			needs(t, x)
			kidOfEach(x, func(x api.Term) {
				holds(t, x)
				needs(t, x)
				seen++
			})
		})
	}
	if seen != 20*31*31 {
		t.Error("not all kinds in all others", seen)
	}
}

// TestKindsSideBySide has all kinds beside each other, in all others.
func TestKindsSideBySide(t *testing.T) {
	hs, kids := allHeads, allKids
	for i, h := range hs {
		for j, a := range hs {
			for k, b := range hs {
				l := []api.Term{node(a, leaves(kids[j])...), node(b, leaves(kids[k])...), node(a, leaves(kids[j])...)}
				x := node(h, l[:kids[i]]...)
				holds(t, x)
				needs(t, x)
			}
		}
	}
}

// grower makes terms by chance that is the same each time.
type grower struct {
	*rand.Rand
	left int // how many more nodes there may be
}

func (g *grower) pick(l ...string) string { return l[g.Intn(len(l))] }

// head is a head of a kind, with any fields that it may have, at any place.
func (g *grower) head(h api.Head) api.Head {
	small := func() string { return g.pick("x", "f", "y", "abcdefghijklmnop", "zZ9", "letr", "exn1") }
	h.At = []int{0, 1, g.Intn(1 << 20), 1<<63 - 1}[g.Intn(4)]
	if h.Kind == 1 {
		h.N = []int64{0, 1, 10, 2147483647, g.Int63n(1 << 31)}[g.Intn(5)]
	}
	if h.Name != "" {
		h.Name = small()
	}
	if h.Arg != "" {
		h.Arg = small()
	}
	if h.Exn != "" {
		h.Exn = g.pick("E", "X9y", "Exn", "Abcdefghijklmnop")
	}
	return h
}

func (g *grower) term() api.Term {
	hs, kids := allHeads, allKids
	i := g.Intn(len(hs))
	if g.left < 3 {
		i = g.Intn(2) // a number or a name
	}
	t := node(g.head(hs[i]))
	g.left -= kids[i]
	for range kids[i] {
		t.Kids = append(t.Kids, g.term())
	}
	return t
}

func TestGrownTerms(t *testing.T) {
	greatest := 0
	for seed := range int64(3000) {
		g := &grower{rand.New(rand.NewSource(seed)), int(seed % 701)}
		x := g.term()
		holds(t, x)
		if n := term.Size(x); n < 80 {
			needs(t, x)
		} else {
			greatest = max(greatest, n)
		}
	}
	if greatest < 300 {
		t.Error("no term is great", greatest)
	}
}

func TestPrograms(t *testing.T) {
	for _, x := range []struct {
		exns []string
		body api.Term
		want string
	}{
		{nil, num(1), "1"},
		{[]string{"E"}, num(1), "exn E ; 1"},
		{[]string{"A", "B"}, of(10, name("f"), of(3, num(1), num(2))), "exn A ; exn B ; f ( 1 , 2 )"},
		{[]string{"B", "A", "B"}, node(api.Head{Kind: 15, Exn: "Z"}, num(1)), "exn B ; exn A ; exn B ; raise Z 1"},
		{[]string{"Abcdefghijklmnop", "X9"}, node(api.Head{Kind: 12, Name: "x"}, num(1), num(2)), "exn Abcdefghijklmnop ; exn X9 ; let x = 1 in 2"},
	} {
		p := api.Program{Body: x.body}
		for i, s := range x.exns {
			p.Exns = append(p.Exns, api.Token{Kind: api.TokExn, Text: s, At: 10 * i})
		}
		if got, e := show.Program(p); got != x.want || e != api.OK {
			t.Errorf("P6.1: Program = %d %q, want %q", e, got, x.want)
		}
		comesBack(t, p)
		for i := range p.Exns { // of a token its text alone is asked
			p.Exns[i].Kind, p.Exns[i].At = uint8(i), -7
		}
		if got, e := show.Program(p); got != x.want || e != api.OK {
			t.Errorf("P6.1: Program, its tokens of other kinds = %d %q, want %q", e, got, x.want)
		}
	}
}

// comesBack holds that a program is read as what it was shown of, and shown as it was read.
func comesBack(t *testing.T, p api.Program) {
	t.Helper()
	s, e := show.Program(p)
	back, _, f := parse.Parse([]byte(s))
	alike := func(a, b api.Token) bool { return a.Kind == b.Kind && a.Text == b.Text }
	if e != api.OK || f != api.OK || !slices.EqualFunc(back.Exns, p.Exns, alike) || !term.Same(back.Body, p.Body) {
		t.Fatalf("P6.2: what is shown as %.300q isn't read as it: %d %d", s, e, f)
	}
	if again, e := show.Program(back); again != s || e != api.OK {
		t.Fatalf("P6.2: what is read of %.300q is shown as %.300q %d", s, again, e)
	}
}

// TestTextsComeBack reads texts with brackets and blanks too many, and those that are shown of them.
func TestTextsComeBack(t *testing.T) {
	for _, s := range []string{
		"exn E;exn F;(try(raise E(1))with F x=>(x))", "exn E ;\n\n((7))", "1", "((((f))((x))))\t",
		"letrec f x = (if (x < 1) then 0 else (1 + (f (x - 1)))) in (try (f 9) with E y => ((y), (! (ref y))))",
		"let a=(1,2)in fn x=>fst a", "!ref(fst(1,2))", "exn A; exn B; exn A; a:=b", "1-2-3*4*5", "(1-(2-3))*(4*5)",
	} {
		p, _, e := parse.Parse([]byte(s))
		if e != api.OK {
			t.Fatal("not read:", s)
		}
		comesBack(t, p)
		shown, _ := show.Program(p)
		l, _, _ := token.Lex([]byte(shown))
		for i, x := range l[1 : len(l)-1] {
			if end := l[i].At + len(l[i].Text); x.At != end+1 || shown[end] != ' ' {
				t.Fatalf("P6.1: not one blank between the tokens of %q", shown)
			}
		}
		if l[0].At != 0 || l[len(l)-1].At != len(shown) || l[len(l)-2].At+len(l[len(l)-2].Text) != len(shown) {
			t.Fatalf("P6.1: blanks beside the tokens of %q", shown)
		}
	}
	for seed := range int64(1000) {
		g := &grower{rand.New(rand.NewSource(seed)), int(seed % 97)}
		p := api.Program{Body: g.term()}
		for range g.Intn(5) {
			p.Exns = append(p.Exns, api.Token{Kind: api.TokExn, Text: g.head(api.Head{Exn: "E"}).Exn, At: g.Intn(9)})
		}
		comesBack(t, p)
	}
}

// refused holds that there is no text of a term, nor of programs with it.
func refused(t *testing.T, why string, x api.Term) {
	t.Helper()
	if s, e := show.Term(x); s != "" || e != api.ErrArg {
		t.Errorf("P6.1, P0.2: Term, %s = %d %.100q", why, e, s)
	}
	for _, exns := range [][]api.Token{nil, {{Kind: api.TokExn, Text: "E"}}, {{Kind: api.TokExn, Text: "e"}}} {
		if s, e := show.Program(api.Program{Exns: exns, Body: x}); s != "" || e != api.ErrArg {
			t.Errorf("P6.1, P0.2: Program of %v, %s = %d %.100q", exns, why, e, s)
		}
	}
}

// spoilt are heads that may not be in place of one.
func spoilt(h api.Head) []api.Head {
	var all []api.Head
	spoil := func(change func(h *api.Head)) {
		other := h
		change(&other)
		all = append(all, other)
	}
	for _, kind := range []uint8{0, 17, 255} {
		spoil(func(h *api.Head) { h.Kind = kind })
	}
	spoil(func(h *api.Head) { h.At = -1 })
	spoil(func(h *api.Head) { h.Op = 6 })
	spoil(func(h *api.Head) { h.Op = 1 - min(h.Op, 1) }) // none where there is one, one where there is none
	spoil(func(h *api.Head) { h.N = -1 })
	spoil(func(h *api.Head) { h.N = 1 << 31 })
	may := func(field, s, good string) bool { return field == "" && s == "" || field != "" && s == good }
	for _, s := range []string{"", "x", "let", "E", "x y", "(", "xxxxxxxxxxxxxxxxx", "1"} {
		if !may(h.Name, s, "x") {
			spoil(func(h *api.Head) { h.Name = s })
		}
		if !may(h.Arg, s, "x") {
			spoil(func(h *api.Head) { h.Arg = s })
		}
	}
	for _, s := range []string{"", "E", "e", "exn", "E F", ";", "Xxxxxxxxxxxxxxxxx", "1"} {
		if !may(h.Exn, s, "E") {
			spoil(func(h *api.Head) { h.Exn = s })
		}
	}
	return all
}

func TestTermsThatMayNotBe(t *testing.T) {
	refused(t, "a zero value", api.Term{})
	hs, kids := allHeads, allKids
	for i, h := range hs {
		bad := []api.Term{node(h, leaves(kids[i]+1)...)}
		if kids[i] > 0 {
			bad = append(bad, node(h, leaves(kids[i]-1)...), node(h))
		}
		for _, other := range spoilt(h) {
			bad = append(bad, node(other, leaves(kids[i])...))
		}
		for _, x := range bad {
			refused(t, "spoilt", x)
			kidOfEach(x, func(x api.Term) { refused(t, "spoilt within", x) })
		}
	}
	around := api.Term{Head: api.Head{Kind: api.KFst}, Kids: make([]api.Term, 1)}
	around.Kids[0] = around // it stands among its own kids, so it has no end of nodes
	refused(t, "a term in itself", around)
}

func TestExceptionsThatAreNone(t *testing.T) {
	for _, s := range []string{"", "e", "exn", "1", "E ", " E", "E F", "E;", "Abcdefghijklmnopq", "Eé", "É", "E_", "\x00", ";", "E\n"} {
		for n := 1; n < 5; n++ {
			for i := range n {
				var p api.Program
				for range n {
					p.Exns = append(p.Exns, api.Token{Kind: api.TokExn, Text: "E"})
				}
				p.Exns[i].Text, p.Body = s, num(1)
				if got, e := show.Program(p); got != "" || e != api.ErrArg {
					t.Errorf("P6.1, P0.2: Program with the exception %q, %d of %d = %d %q", s, i, n, e, got)
				}
			}
		}
	}
}

// deep is a term of so many nodes of a kind, one in another in one kid's place, with numbers in the other ones, and with as many more nodes as are left ahead of it.
func deep(h api.Head, kids, at, nodes int) api.Term {
	x := num(1)
	left := nodes - 1
	for ; left >= kids; left -= kids {
		l := slices.Repeat([]api.Term{num(2)}, kids)
		l[at] = x
		x = node(h, l...)
	}
	for range left {
		x = of(api.KGet, x)
	}
	return x
}

func TestMostNodes(t *testing.T) {
	hs, kids := allHeads, allKids
	for i, h := range hs {
		if h.Name != "" {
			h.Name = "abcdefghijklmnop"
		}
		if h.Arg != "" {
			h.Arg = "abcdefghijklmnop"
		}
		for at := range kids[i] {
			holds(t, deep(h, kids[i], at, 4000))
			refused(t, "too many nodes", deep(h, kids[i], at, 4001))
		}
	}
}

// TestLongTexts: what is shown may be too long to be read.
func TestLongTexts(t *testing.T) {
	long := deep(api.Head{Kind: api.KLetrec, Name: "abcdefghijklmnop", Arg: "abcdefghijklmnop"}, 2, 1, 4000)
	s, e := show.Term(long)
	if _, _, f := parse.Term([]byte(s)); e != api.OK || f != api.ErrLong || s != textOf(long) || len(s) <= 1<<16 {
		t.Error("P6.1: more bytes than can be read:", len(s), e, f)
	}
	for _, n := range []int{64, 65, 1333, 20000} { // 3 tokens each, and the term has one
		p := api.Program{Exns: slices.Repeat([]api.Token{{Kind: api.TokExn, Text: "E"}}, n), Body: num(1)}
		want := strings.Repeat("exn E ; ", n) + "1"
		if s, e := show.Program(p); s != want || e != api.OK {
			t.Error("P6.1: Program of as many exceptions as", n, e, len(s))
		}
		if n <= 1333 {
			comesBack(t, p)
		}
	}
}

// copied is a term in memory of its own, with room behind the ends of its lists.
func copied(x api.Term) api.Term {
	room := make([]api.Term, len(x.Kids), len(x.Kids)+2)
	for i, k := range x.Kids {
		room[i] = copied(k)
	}
	for i := range room[len(room):cap(room)] {
		room[:cap(room)][len(room)+i] = name("room")
	}
	return api.Term{Head: x.Head, Kids: room}
}

// behind are the terms behind the ends of a term's lists.
func behind(x api.Term) []api.Term {
	l := slices.Clone(x.Kids[len(x.Kids):cap(x.Kids)])
	for _, k := range x.Kids {
		l = append(l, behind(k)...)
	}
	return l
}

func TestArgumentsStay(t *testing.T) {
	for seed := range int64(50) {
		g := &grower{rand.New(rand.NewSource(seed)), 200}
		x := g.term()
		mine := copied(x)
		want, _ := show.Term(x)
		got, e := show.Term(mine)
		if got != want || e != api.OK || !reflect.DeepEqual(copied(x), mine) {
			t.Fatal("P0.4: the term that was handed in is changed", e)
		}
		if slices.ContainsFunc(behind(mine), func(x api.Term) bool { return x.Name != "room" }) {
			t.Fatal("P0.4: the room behind a list's end is changed")
		}
		exns := []api.Token{{Kind: api.TokExn, Text: "A", At: 4}, {Kind: api.TokExn, Text: "B"}, {Text: "room"}}
		got, e = show.Program(api.Program{Exns: exns[:2], Body: mine})
		if got != "exn A ; exn B ; "+want || e != api.OK {
			t.Fatal("P0.6: the same term has another text", e)
		}
		if !reflect.DeepEqual(copied(x), mine) || exns[0] != (api.Token{Kind: api.TokExn, Text: "A", At: 4}) || exns[1].Text != "B" || exns[2].Text != "room" {
			t.Fatal("P0.4: the program that was handed in is changed")
		}
	}
}

func TestNilAndEmpty(t *testing.T) {
	for _, kids := range [][]api.Term{nil, {}} {
		for _, exns := range [][]api.Token{nil, {}} {
			x := api.Term{Head: api.Head{Kind: api.KNum, N: 3}, Kids: kids}
			if s, e := show.Program(api.Program{Exns: exns, Body: x}); s != "3" || e != api.OK {
				t.Error("P0.5: Program with empty lists", s, e)
			}
			if s, e := show.Program(api.Program{Exns: exns, Body: api.Term{Kids: kids}}); s != "" || e != api.ErrArg {
				t.Error("P0.5: Program of no term", s, e)
			}
		}
	}
}

func TestCallsStandAlone(t *testing.T) {
	x := of(api.KApp, of(api.KApp, name("f"), op(1, num(1), num(2))), name("x"))
	for range 3 { // what was asked ahead counts for nothing
		shows(t, x, "f ( 1 + 2 ) x")
		refused(t, "no kids", of(api.KApp))
		shows(t, num(4), "4")
		refused(t, "a kid that may not be", of(api.KApp, x, api.Term{}))
	}
}
