package parse_test

import (
	"fmt"
	"math/rand"
	"reflect"
	"slices"
	"strconv"
	"strings"
	"testing"

	"enclave/api"
	"enclave/parse"
	"enclave/term"
	"enclave/token"
)

// asked is what Parse, for "program", or Term, for "expr", answers.
func asked(part, s string) answer {
	if part == "program" {
		p, at, e := parse.Parse([]byte(s))
		return answer{p, at, e}
	}
	x, at, e := parse.Term([]byte(s))
	return answer{api.Program{Body: x}, at, e}
}

var both = []string{"program", "expr"}

// same tells whether two answers are: a nil list is the same as an empty one.
func same(a, b answer) bool {
	return a.at == b.at && a.e == b.e && slices.Equal(a.Exns, b.Exns) && full(a.Body) == full(b.Body)
}

// full is all that a term has, as a text.
func full(t api.Term) string {
	var b strings.Builder
	var write func(t api.Term)
	write = func(t api.Term) {
		fmt.Fprintf(&b, "[%d %d at %d %d %s,%s,%s", t.Kind, t.Op, t.At, t.N, t.Name, t.Arg, t.Exn)
		for _, k := range t.Kids {
			write(k)
		}
		b.WriteString("]")
	}
	write(t)
	return b.String()
}

// shape is a term in which brackets stand around each node that has kids.
func shape(t api.Term) string {
	var kids []any
	for _, k := range t.Kids {
		kids = append(kids, shape(k))
	}
	k := func(i int) string { return kids[i].(string) }
	switch t.Kind {
	case 1:
		return strconv.FormatInt(t.N, 10)
	case 2:
		return t.Name
	case 3:
		return "{" + k(0) + "," + k(1) + "}"
	case 4, 5, 6, 7:
		return "(" + []string{"fst", "snd", "ref", "!"}[t.Kind-4] + " " + k(0) + ")"
	case 8:
		return "(" + k(0) + ":=" + k(1) + ")"
	case 9:
		return "(" + k(0) + "?+-*<="[t.Op:t.Op+1] + k(1) + ")"
	case 10:
		return "(" + k(0) + " " + k(1) + ")"
	case 11:
		return "(fn " + t.Arg + "." + k(0) + ")"
	case 12:
		return "(let " + t.Name + "." + k(0) + "." + k(1) + ")"
	case 13:
		return "(letrec " + t.Name + "." + t.Arg + "." + k(0) + "." + k(1) + ")"
	case 14:
		return "(if " + k(0) + "." + k(1) + "." + k(2) + ")"
	case 15:
		return "(raise " + t.Exn + "." + k(0) + ")"
	}
	return "(try " + k(0) + "." + t.Exn + "." + t.Arg + "." + k(1) + ")"
}

// places are where the nodes begin, each ahead of its kids.
func places(t api.Term) []int {
	l := []int{t.At}
	for _, k := range t.Kids {
		l = append(l, places(k)...)
	}
	return l
}

// sees holds Parse and Term of one text against the grammar, and what comes of it against layer 4. It stops at the first fault: where many texts are gone through, more of them tell nothing new.
func sees(t *testing.T, s string) {
	t.Helper()
	for _, part := range both {
		got, want := asked(part, s), answerOf(part, s)
		if !same(got, want) {
			t.Fatalf("P5.1: %s of %.200q = %d %d %v %.400s, want %d %d %v %.400s", part, s, got.at, got.e, got.Exns, full(got.Body), want.at, want.e, want.Exns, full(want.Body))
		}
		if got.e == api.OK && !term.May(got.Body) {
			t.Fatalf("P5.2: what comes of %.200q may not be: %.400s", s, full(got.Body))
		}
	}
}

// words are the texts of all words and signs of the grammar, and a few of the other tokens.
var words = []string{"x", "7", "E", "let", "letrec", "in", "fn", "if", "then", "else", "raise", "try", "with", "ref", "fst", "snd", "exn",
	":=", "=>", "(", ")", ",", "!", "=", "+", "-", "*", "<", ";"}

// ordinary are texts of programs in which each line of the grammar stands, and each word of it.
var ordinary = []string{
	"7", "x", "( x )", "( x , 7 )", "( ( x ) , ( ( 7 ) ) )", "( ( x , 1 ) , ( 2 , y ) )",
	"! x", "ref x", "fst x", "snd x", "raise E x", "! ref fst snd raise E ! x", "raise E raise F 1",
	"f x", "f x y z", "f ( x y ) ! z 1", "1 2", "f raise E 1 x",
	"a * b", "a * b * c", "a * f x * b", "a + b", "a - b", "a + b - c + d", "a - b * c - d e", "a < b", "a = b", "a + b < c - d", "a = ( b = c )",
	"a := b", "a := b = c", "a = b := c < d", "( a := b ) := c", "f x := g y + 1",
	"let x = 1 in x", "let x = a := b in x := 1", "let x = let y = 1 in y in let z = 2 in z", "let x = a = b in x = c",
	"letrec f x = f x in f 1", "letrec f f = f in f", "letrec f x = fn y => x in letrec g y = y in g f",
	"fn x => x", "fn x => fn y => x y", "( fn x => x ) 1", "fn x => x , 1", "( fn x => x , fn y => y )",
	"if a then b else c", "if if a then b else c then if d then e else f else if g then h else i", "if a = b then a := b else f a",
	"try f 1 with E x => x", "try try a with E x => b with F y => c", "try a with E x => try b with F y => c", "try fn x => x with E y => fn z => z",
	"exn E ; raise E 3", "exn E ; exn F ; try raise E 1 with F x => x", "exn E ; exn E ; 1", "exn A ; exn B ; exn C ; exn D ; let x = 1 in x",
	"letrec f x = if x < 1 then 0 else 1 + f ( x - 1 ) in try f 9 with E y => ( y , ! ref y )",
}

// apart are a text's tokens, between which blanks stand.
func apart(s string) []string { return strings.Fields(s) }

func TestShapes(t *testing.T) {
	for _, x := range []struct{ s, want string }{
		{"5", "5"}, {"0", "0"}, {"2147483647", "2147483647"}, {"x", "x"}, {"xY9", "xY9"}, {"abcdefghijklmnop", "abcdefghijklmnop"},
		{"(a, b)", "{a,b}"}, {"fst a", "(fst a)"}, {"snd a", "(snd a)"}, {"ref a", "(ref a)"}, {"! a", "(! a)"}, {"a := b", "(a:=b)"},
		{"a + b", "(a+b)"}, {"a - b", "(a-b)"}, {"a * b", "(a*b)"}, {"a < b", "(a<b)"}, {"a = b", "(a=b)"}, {"a b", "(a b)"},
		{"fn x => a", "(fn x.a)"}, {"let x = a in b", "(let x.a.b)"}, {"letrec f x = a in b", "(letrec f.x.a.b)"}, {"if a then b else c", "(if a.b.c)"}, {"raise E a", "(raise E.a)"}, {"try a with E x => b", "(try a.E.x.b)"},
		// from the left
		{"a - b - c", "((a-b)-c)"}, {"a + b + c", "((a+b)+c)"}, {"a - b + c - d", "(((a-b)+c)-d)"}, {"a * b * c", "((a*b)*c)"}, {"a b c d", "(((a b) c) d)"}, {"a - (b - c)", "(a-(b-c))"}, {"a * (b * c)", "(a*(b*c))"}, {"a (b c)", "(a (b c))"},
		// what binds tighter
		{"a + b * c", "(a+(b*c))"}, {"a * b + c", "((a*b)+c)"}, {"(a + b) * c", "((a+b)*c)"}, {"a * b c", "(a*(b c))"}, {"a b * c", "((a b)*c)"}, {"a < b + c", "(a<(b+c))"}, {"a - b = c", "((a-b)=c)"}, {"a := b < c", "(a:=(b<c))"}, {"a = b := c", "((a=b):=c)"}, {"(a := b) = c", "((a:=b)=c)"},
		{"! a b", "((! a) b)"}, {"! (a b)", "(! (a b))"}, {"f ! a", "(f (! a))"}, {"fst a + b", "((fst a)+b)"}, {"ref a := b", "((ref a):=b)"}, {"snd fst a b", "((snd (fst a)) b)"}, {"raise E a b", "((raise E.a) b)"}, {"raise E (a b)", "(raise E.(a b))"}, {"raise E a + b", "((raise E.a)+b)"}, {"! raise E ref 1", "(! (raise E.(ref 1)))"}, {"f raise E a b", "((f (raise E.a)) b)"},
		{"f -1", "(f-1)"}, {"1 2 3", "((1 2) 3)"}, {"f(1)(2)", "((f 1) 2)"}, {"f(1,2)", "(f {1,2})"}, {"2x", "(2 x)"},
		// as far as it goes
		{"fn x => a := b", "(fn x.(a:=b))"}, {"fn x => a b + c", "(fn x.((a b)+c))"}, {"(fn x => a) b", "((fn x.a) b)"}, {"fn x => fn y => x", "(fn x.(fn y.x))"}, {"let x = a = b in c = d", "(let x.(a=b).(c=d))"}, {"let x = let y = a in b in c", "(let x.(let y.a.b).c)"}, {"(let x = a in b) c", "((let x.a.b) c)"}, {"if a then b else c + d", "(if a.b.(c+d))"}, {"(if a then b else c) + d", "((if a.b.c)+d)"}, {"try a with E x => b c", "(try a.E.x.(b c))"}, {"try try a with E x => b with F y => c", "(try (try a.E.x.b).F.y.c)"}, {"try a with E x => try b with F y => c", "(try a.E.x.(try b.F.y.c))"}, {"if if a then b else c then d else e", "(if (if a.b.c).d.e)"}, {"letrec f f = fn f => f in f", "(letrec f.f.(fn f.f).f)"}, {"(fn x => x, let y = 1 in y)", "{(fn x.x),(let y.1.y)}"}, {"(a := b, c := d)", "{(a:=b),(c:=d)}"},
		// brackets
		{"(a)", "a"}, {"((a))", "a"}, {"((a), (b))", "{a,b}"}, {"(((a, b)))", "{a,b}"}, {"((a, b), c)", "{{a,b},c}"}, {"(a, (b, c))", "{a,{b,c}}"}, {"(a)(b)", "(a b)"}, {"((f) x)", "(f x)"}, {"(a + b)", "(a+b)"},
		{"( fn x => x ) 1", "((fn x.x) 1)"}, {"f x + 1", "((f x)+1)"},
	} {
		for _, part := range both {
			if got := asked(part, x.s); got.e != 0 || got.at != 0 || len(got.Exns) != 0 || shape(got.Body) != x.want {
				t.Errorf("P5.1: %s of %q = %s %d %d, want %s", part, x.s, shape(got.Body), got.at, got.e, x.want)
			}
		}
		sees(t, x.s)
	}
}

func TestWhereNodesBegin(t *testing.T) {
	for _, x := range []struct {
		s    string
		want []int
	}{
		{"x", []int{0}}, {" \n\t12 ", []int{3}}, {"( x )", []int{2}}, {"(((x)))", []int{3}},
		{"(a, b)", []int{0, 1, 4}}, {"((a, b))", []int{1, 2, 5}}, {"((a), b)", []int{0, 2, 6}}, {"(((a)), ((b)))", []int{0, 3, 10}},
		{"a := b", []int{0, 0, 5}}, {"(a) := (b)", []int{1, 1, 8}}, {"((a := b))", []int{2, 2, 7}}, {"(a, b) := c", []int{0, 0, 1, 4, 10}}, {"(! a) := 1", []int{1, 1, 3, 9}},
		{"a + b", []int{0, 0, 4}}, {"(a) + b", []int{1, 1, 6}}, {"((a) + b)", []int{2, 2, 7}}, {"(a + b) - c", []int{1, 1, 1, 5, 10}}, {"a + (b - c)", []int{0, 0, 5, 5, 9}}, {"(a * b) < (c)", []int{1, 1, 1, 5, 11}}, {"(a, b) = c", []int{0, 0, 1, 4, 9}}, {"fst (a) * b", []int{0, 0, 5, 10}}, {"(fst a) * b", []int{1, 1, 5, 10}},
		{"a b c", []int{0, 0, 0, 2, 4}}, {"(a) b", []int{1, 1, 4}}, {"((a) b) c", []int{2, 2, 2, 5, 8}}, {"a (b c)", []int{0, 0, 3, 3, 5}}, {"(a, b) c", []int{0, 0, 1, 4, 7}}, {"( fn x => x ) 1", []int{2, 2, 10, 14}}, {"(let x = 1 in x) y", []int{1, 1, 9, 14, 17}}, {"f (a , b)", []int{0, 0, 2, 3, 7}},
		{"! (a)", []int{0, 3}}, {"ref (a, b)", []int{0, 4, 5, 8}}, {"(snd a)", []int{1, 5}}, {"raise E (a)", []int{0, 9}}, {"(raise E a)", []int{1, 9}}, {"fst snd a", []int{0, 4, 8}},
		{"(fn x => (x))", []int{1, 10}}, {"let x = (a) in (b)", []int{0, 9, 16}}, {"letrec f x = (a) in b", []int{0, 14, 20}}, {"if (a) then (b) else (c)", []int{0, 4, 13, 22}}, {"try (a) with E x => (b)", []int{0, 5, 21}}, {"(try a with E x => b)", []int{1, 5, 19}},
		{"exn E; x", []int{7}}, {"exn E ; exn F ; (x) y", []int{17, 17, 20}},
		{"f x + 1", []int{0, 0, 0, 2, 6}}, {"a\n:=\nb", []int{0, 0, 5}},
	} {
		if p, at, e := parse.Parse([]byte(x.s)); at != 0 || e != 0 || !slices.Equal(places(p.Body), x.want) {
			t.Errorf("P5.1: the nodes of %q begin at %v (%d %d), want %v", x.s, places(p.Body), at, e, x.want)
		}
		sees(t, x.s)
	}
}

func TestExceptions(t *testing.T) {
	for _, x := range []struct {
		s    string
		want []api.Token
	}{
		{"1", nil},
		{"exn E;1", []api.Token{{Kind: api.TokExn, Text: "E", At: 4}}},
		{" exn\tE\n;  1", []api.Token{{Kind: api.TokExn, Text: "E", At: 5}}},
		{"exn A; exn B;1", []api.Token{{Kind: api.TokExn, Text: "A", At: 4}, {Kind: api.TokExn, Text: "B", At: 11}}},
		{"exn B;exn A;exn B;1", []api.Token{{Kind: api.TokExn, Text: "B", At: 4}, {Kind: api.TokExn, Text: "A", At: 10}, {Kind: api.TokExn, Text: "B", At: 16}}},
		{"exn Abcdefghijklmnop ; 1", []api.Token{{Kind: api.TokExn, Text: "Abcdefghijklmnop", At: 4}}},
	} {
		p, at, e := parse.Parse([]byte(x.s))
		if at != 0 || e != 0 || !slices.Equal(p.Exns, x.want) || p.Body.Kind != api.KNum || p.Body.N != 1 || p.Body.At != len(x.s)-1 {
			t.Errorf("P5.1: Parse(%q) = %v %d %d, want %v", x.s, p, at, e, x.want)
		}
		if _, at, e := parse.Term([]byte(x.s)); x.want != nil && (at != strings.Index(x.s, "exn") || e != api.ErrForm) {
			t.Errorf("P5.1: Term(%q) = %d %d, but an expr declares no exceptions", x.s, at, e)
		}
		sees(t, x.s)
	}
	many := strings.Repeat("exn E ; ", 200) // how many there may be is asked in layer 7
	if p, at, e := parse.Parse([]byte(many + "1")); at != 0 || e != 0 || len(p.Exns) != 200 || p.Exns[199].At != 199*8+4 {
		t.Error("P5.1: many exceptions", len(p.Exns), at, e)
	}
}

// named are the tokens of a text, in which each name, number and exception tells its place, so that none is like another one.
func named(l []string) string {
	l = slices.Clone(l)
	for i, s := range l {
		switch s {
		case "x":
			l[i] = string(rune('a' + i))
		case "7":
			l[i] = strconv.Itoa(i)
		case "E":
			l[i] = string(rune('A' + i))
		}
	}
	return strings.Join(l, " ")
}

// grow goes through all texts of at most so many of these tokens that stand so far as the grammar lets them, and through each token that can't stand behind them.
func grow(t *testing.T, l []string, ways []*todo, most int, of ...string) int {
	s := named(l)
	sees(t, s)
	n := 1
	if len(l) == most {
		return n
	}
	for _, w := range of {
		longer := append(slices.Clone(l), w)
		next, _, _ := token.Lex([]byte(w))
		if left := goes(ways, next[0]); len(left) > 0 {
			n += grow(t, longer, left, most, of...)
			continue
		}
		for _, behind := range []string{"", " x", " )", " ;"} {
			text := named(longer)
			if p, at, e := parse.Parse([]byte(text + behind)); at != strings.LastIndex(text, " ")+1 || e != api.ErrForm || len(p.Exns) != 0 || p.Body.Kind != 0 {
				t.Fatalf("P5.1: Parse(%q) = %v %d %d, want none at %d", text+behind, p, at, e, strings.LastIndex(text, " ")+1)
			}
		}
	}
	return n
}

func TestAllShortTexts(t *testing.T) {
	t.Parallel()
	if n := grow(t, nil, opens("program"), 4, words...); n < 1000 {
		t.Error("P5.1: so few short texts begin a program:", n)
	}
}

func TestLongerTextsOfFewWords(t *testing.T) {
	t.Parallel()
	for _, of := range [][]string{
		{"x", "(", ")", ",", "!"},
		{"x", "+", "-", "*", "<", "=", ":="},
		{"7", "x", "raise", "E", "fst", "(", ")"},
	} {
		if n := grow(t, nil, opens("program"), 6, of...); n < 100 {
			t.Errorf("P5.1: so few texts of %v begin a program: %d", of, n)
		}
	}
	for _, of := range [][]string{
		{"x", "let", "letrec", "=", "in", "fn", "=>"},
		{"x", "if", "then", "else", "+"},
		{"x", "E", "try", "with", "=>", "("},
		{"exn", "E", ";", "7"},
	} {
		grow(t, nil, opens("program"), 8, of...)
	}
}

// lines are the grammar's lines, with a hole where another one may stand.
var lines = []string{
	"let x = _ in _", "letrec f x = _ in _", "fn x => _", "if _ then _ else _", "try _ with E x => _",
	"_ := _", "_ < _", "_ = _", "_ + _", "_ - _", "_ * _", "_ _", "! _", "ref _", "fst _", "snd _", "raise E _", "( _ )", "( _ , _ )", "7", "y",
}

// fill puts a text into one hole of a line, and a name into the others.
func fill(line string, hole int, s string) string {
	l := apart(line)
	for i, w := range l {
		if w != "_" {
			continue
		}
		l[i] = string(rune('a' + i))
		if hole == 0 {
			l[i] = s
		}
		hole--
	}
	return strings.Join(l, " ")
}

func TestEachLineInEachOther(t *testing.T) {
	t.Parallel()
	for _, outer := range lines {
		for hole := range strings.Count(outer, "_") {
			for _, inner := range lines {
				s := fill(inner, -1, "")
				sees(t, fill(outer, hole, s))
				sees(t, fill(outer, hole, "( "+s+" )"))
				sees(t, fill(outer, hole, "( ( "+s+" ) )"))
				for deep := range strings.Count(inner, "_") {
					for _, third := range lines {
						sees(t, fill(outer, hole, fill(inner, deep, fill(third, -1, ""))))
						sees(t, fill(outer, hole, fill(inner, deep, "( "+fill(third, -1, "")+" )")))
					}
				}
			}
		}
	}
}

func TestBracketsMakeNoTerm(t *testing.T) {
	for _, outer := range lines {
		for hole := range strings.Count(outer, "_") {
			for _, inner := range lines {
				s := fill(inner, -1, "")
				alone, _, _ := parse.Term([]byte(s))
				got, at, e := parse.Term([]byte(fill(outer, hole, "( "+s+" )")))
				kid := got
				if outer != "( _ )" {
					kid = got.Kids[hole]
				}
				if at != 0 || e != 0 || !term.Same(kid, alone) || kid.At-alone.At != strings.Index(fill(outer, hole, "_"), "_")+2 {
					t.Errorf("P5.1: %q in brackets in %q: %s at %d", s, outer, shape(got), kid.At)
				}
			}
		}
	}
}

func TestTokensSpoilt(t *testing.T) {
	t.Parallel()
	for _, s := range ordinary {
		l := apart(s)
		sees(t, s)
		for i := range l {
			sees(t, strings.Join(slices.Delete(slices.Clone(l), i, i+1), " ")) // missing
			sees(t, strings.Join(slices.Insert(slices.Clone(l), i, l[i]), " "))
			if i > 0 {
				turned := slices.Clone(l)
				turned[i-1], turned[i] = turned[i], turned[i-1]
				sees(t, strings.Join(turned, " "))
			}
			sees(t, strings.Join(l[:i], " "))
			sees(t, strings.Join(l[i:], " "))
			for _, w := range words {
				sees(t, strings.Join(slices.Insert(slices.Clone(l), i, w), " ")) // too many
				sees(t, s+" "+w)
				other := slices.Clone(l)
				other[i] = w
				sees(t, strings.Join(other, " ")) // in another one's place
			}
		}
	}
}

func TestWhereItCantStand(t *testing.T) {
	for _, x := range []struct {
		s  string
		at int
	}{
		{"", 0}, {" ", 1}, {"\n\n", 2}, {"x y )", 4}, {"( x", 3}, {"( x ,", 5}, {"( x , y", 7}, {"( )", 2}, {"( , x )", 2}, {"( x , )", 6}, {"( x , y , z )", 8}, {"x , y", 2}, {") x", 0},
		{"a := b := c", 7}, {"a < b < c", 6}, {"a < b = c", 6}, {"a = b < c", 6}, {"a = b = c", 6}, {"a := b = c := d", 11}, {"a := := b", 5}, {"a + + b", 4}, {"a *", 3}, {"* a", 0}, {"- 1", 0}, {"1 +", 3}, {"a ! := b", 4}, {"a - ! * b", 6},
		{"1 + fn x => x", 4}, {"f fn x => x", 2}, {"! let x = 1 in x", 2}, {"a := if b then c else d", 5}, {"a * try b with E x => c", 4}, {"raise E fn x => x", 8}, {"a < letrec f x = x in f", 4},
		{"let = 1 in 1", 4}, {"let in = 1 in 1", 4}, {"let X = 1 in 1", 4}, {"let 1 = 1 in 1", 4}, {"let x y = 1 in 1", 6}, {"let x := 1 in 1", 6}, {"let x => 1 in 1", 6}, {"let x = in 1", 8}, {"let x = 1 1", 11}, {"let x = 1 ; x", 10}, {"let x = 1 in", 12}, {"let ( x ) = 1 in 1", 4}, {"let rec f x = x in f", 8},
		{"letrec f = x in f", 9}, {"letrec f x y = x in f", 11}, {"letrec fn x = x in f", 7}, {"letrec f let = x in f", 9}, {"letrec F x = x in f", 7}, {"letrec f X = x in f", 9},
		{"fn => x", 3}, {"fn x = x", 5}, {"fn x x => x", 5}, {"fn fst => x", 3}, {"fn E => x", 3}, {"fn 1 => x", 3}, {"fn x =>", 7}, {"fn ( x ) => x", 3},
		{"if then b else c", 3}, {"if a else c", 5}, {"if a then else c", 10}, {"if a then b", 11}, {"if a then b else", 16}, {"if a then b then c", 12}, {"if a then b else c else d", 19},
		{"try with E x => b", 4}, {"try a E x => b", 6}, {"try a with x => b", 11}, {"try a with E => b", 13}, {"try a with E x = b", 15}, {"try a with E x =>", 17}, {"try a with E E => b", 13}, {"try a with E try => b", 13}, {"try a with raise x => b", 11}, {"try a", 5}, {"try a with E x => b with F y => c", 20},
		{"raise 1", 6}, {"raise e 1", 6}, {"raise E", 7}, {"raise raise E 1", 6}, {"raise E E", 8}, {"E", 0}, {"f E", 2}, {"E 1", 0},
		{"f exn", 2}, {"exn", 3}, {"exn E", 5}, {"exn E ;", 7}, {"exn ; 1", 4}, {"exn a ; 1", 4}, {"exn 1 ; 1", 4}, {"exn exn ; 1", 4}, {"exn E 1", 6}, {"exn E , F ; 1", 6}, {"exn E ; ; 1", 8}, {"exn E ; 1 ;", 10}, {"1 ; 2", 2}, {"x exn E ; 1", 2}, {"( exn E ; 1 )", 2}, {"let x = exn E ; 1 in x", 8}, {"exn E ; F", 8}, {"exn E ; exn F", 13},
		{"x in", 2}, {"x with", 2}, {"x then", 2}, {"x else", 2}, {"x =>", 2}, {"x let y = 1 in y", 2}, {"fn x => x => x", 10}, {"in", 0}, {"then", 0}, {"with", 0}, {"=>", 0}, {"else 1", 0}, {":= 1", 0}, {"1 )", 2},
		{") + in", 0}, {"( x ; y", 4}, {"a := b := c := d )", 7}, // the first one is told
	} {
		for _, part := range both {
			if got := asked(part, x.s); part == "program" || !strings.HasPrefix(x.s, "exn") {
				if got.at != x.at || got.e != api.ErrForm || len(got.Exns) != 0 || full(got.Body) != full(api.Term{}) {
					t.Errorf("P5.1, P0.2: %s of %q = %d %d %s, want none at %d", part, x.s, got.at, got.e, full(got.Body), x.at)
				}
			}
		}
		sees(t, x.s)
	}
}

func TestBytesMakeNoTokens(t *testing.T) {
	for _, s := range append([]string{") )", "1 + + 2", "let in"}, ordinary...) {
		l := apart(s)
		for i := range len(l) + 1 {
			ahead := strings.Join(append(slices.Clone(l[:i]), ""), " ")
			for _, bad := range []string{"#", ":", ">", "01", "2147483648", "abcdefghijklmnopq", "Abcdefghijklmnopq", "é", "\x00", "\r"} {
				for _, part := range both {
					// The tokens' errors are told first, however little may stand ahead of them.
					if got := asked(part, ahead+bad+" "+strings.Join(l[i:], " ")); got.at != len(ahead) || got.e != api.ErrForm || len(got.Exns) != 0 || got.Body.Kind != 0 {
						t.Errorf("P5.1, P0.2: %s of %q with %q at %d = %d %d", part, s, bad, len(ahead), got.at, got.e)
					}
				}
			}
		}
	}
}

// ends holds both calls' place and error of a text, and that there is something else with none alone.
func ends(t *testing.T, s string, at int, e api.Errno) {
	t.Helper()
	for _, part := range both {
		got := asked(part, s)
		if part == "expr" && strings.HasPrefix(s, "exn") {
			continue
		}
		if got.at != at || got.e != e || (got.Body.Kind == 0) != (e != api.OK) || e != api.OK && (len(got.Exns) > 0 || full(got.Body) != full(api.Term{})) {
			t.Errorf("P5.1: %s of %d bytes, %.30q .. = %d %d, want %d %d", part, len(s), s, got.at, got.e, at, e)
		}
		if got.e == api.OK && !term.May(got.Body) {
			t.Errorf("P5.2: what comes of %d bytes, %.30q .., may not be: it has %d nodes", len(s), s, term.Size(got.Body))
		}
	}
}

func TestMostTokens(t *testing.T) {
	gets := strings.Repeat("!", 3999)
	ends(t, gets+"x", 0, api.OK)
	ends(t, gets+"!x", 4000, api.ErrLong)
	ends(t, gets+"\n\n x", 0, api.OK)
	ends(t, gets+" ! \n x", 4004, api.ErrLong)
	ends(t, gets+"!\n\n x x x", 4003, api.ErrLong)
	ends(t, gets+"!", 4000, api.ErrForm) // the end isn't one of them
	ends(t, gets+"! ", 4001, api.ErrForm)
	ends(t, strings.Repeat("(", 4000), 4000, api.ErrForm)
	ends(t, strings.Repeat("(", 4001), 4000, api.ErrLong)
	ends(t, strings.Repeat("(", 1999)+"xy"+strings.Repeat(")", 1999), 0, api.OK)
	ends(t, strings.Repeat("(", 1999)+"x y"+strings.Repeat(")", 1999), 0, api.OK)
	ends(t, strings.Repeat("(", 1999)+"x y"+strings.Repeat(")", 2000), 4001, api.ErrLong)
	ends(t, strings.Repeat("(", 1999)+"x"+strings.Repeat(")", 2000), 3999, api.ErrForm)
	ends(t, strings.Repeat("(", 2000)+"x"+strings.Repeat(")", 1999), 4000, api.ErrForm)
	ends(t, strings.Repeat("(", 2000)+"x"+strings.Repeat(")", 2000), 4000, api.ErrLong)
	ends(t, strings.Repeat("x+", 1999)+"!x", 0, api.OK)
	ends(t, strings.Repeat("x+", 1999)+"!!x", 4000, api.ErrLong)
	ends(t, strings.Repeat("exn E ; ", 1333)+"x", 0, api.OK)
	ends(t, strings.Repeat("exn E ; ", 1333)+"!x", 1333*8+1, api.ErrLong)
	ends(t, strings.Repeat("fn x=>", 1333)+"x", 0, api.OK)
	ends(t, strings.Repeat("fn x=>", 1333)+"x x", 1333*6+2, api.ErrLong)
	ends(t, strings.Repeat("if x then x else ", 799)+strings.Repeat("!", 4)+"x", 0, api.OK)
	ends(t, ")"+strings.Repeat("(", 3999), 0, api.ErrForm)
	ends(t, ")"+strings.Repeat("(", 4000), 4000, api.ErrLong) // named ahead of what can't stand
	ends(t, strings.Repeat(";", 4001), 4000, api.ErrLong)
	ends(t, strings.Repeat("(", 4001)+" #", 4002, api.ErrForm) // the tokens' errors are named ahead of both
	ends(t, strings.Repeat("#", 4001), 0, api.ErrForm)
	if api.MaxTokens != 4000 || api.MaxNodes != 4000 {
		t.Error("P5.1: the limits", api.MaxTokens, api.MaxNodes)
	}
}

func TestMostBytes(t *testing.T) {
	blanks := strings.Repeat(" ", 1<<16)
	ends(t, blanks[1:]+"x", 0, api.OK)
	ends(t, "x"+blanks[1:], 0, api.OK)
	ends(t, blanks+"x", 0, api.ErrLong)
	ends(t, "x"+blanks, 0, api.ErrLong)
	ends(t, blanks, 1<<16, api.ErrForm)
	ends(t, blanks+" ", 0, api.ErrLong)
	ends(t, blanks[1:]+"#", 1<<16-1, api.ErrForm)
	ends(t, blanks+"#", 0, api.ErrLong)
	ends(t, strings.Repeat("(", 1<<16), 4000, api.ErrLong)
	ends(t, strings.Repeat("(", 1<<16+1), 0, api.ErrLong)
	ends(t, strings.Repeat("#", 1<<18), 0, api.ErrLong)
}

// TestMostNodes goes up to the greatest terms that may be, of texts that make more nodes than they have tokens, as KApp has no token of its own.
func TestMostNodes(t *testing.T) {
	apps := strings.Repeat("x ", 2000)
	calls := "letrec f x = x in f 1" + strings.Repeat(" + f 1", 998)
	for _, x := range []struct {
		s     string
		nodes int
	}{
		{apps, 3999}, {"!" + apps, 4000}, {"fn x => " + apps, 4000}, {"(((" + apps + ")))", 3999}, {apps[2:] + "! x", 4000}, {apps[2:] + "raise E x", 4000},
		{"let y = " + apps[4:] + "in 1", 3997}, {"let y = " + apps[4:] + "in ! ! ! 1", 4000}, {"(1, " + apps[4:] + ")", 3997},
		{calls, 3997}, {calls + " + 1", 3999}, {calls + " + ! 1", 4000}, {calls + " * ! 2", 4000},
	} {
		got, at, e := parse.Term([]byte(x.s))
		if at != 0 || e != api.OK || term.Size(got) != x.nodes || !term.May(got) {
			t.Errorf("P5.1, P5.2: Term of %d bytes, %.30q .. = %d %d, %d nodes, want %d", len(x.s), x.s, at, e, term.Size(got), x.nodes)
		}
	}
}

// TestTooManyNodes: P5.1's words give a text of at most MaxTokens tokens its term, be its nodes more than MaxNodes, and P5.2's give it none. So no more is asked here than that the call ends, with the whole term or without any.
func TestTooManyNodes(t *testing.T) {
	for n := 2001; n <= 4000; n += 1999 {
		got, at, e := parse.Term([]byte(strings.Repeat("x ", n)))
		whole := at == 0 && e == api.OK && term.Size(got) == 2*n-1 && got.Kind == api.KApp && got.Kids[1].At == 2*n-2
		none := e != api.OK && full(got) == full(api.Term{})
		if !whole && !none {
			t.Errorf("P0.1, P0.2: %d names in a row: %d %d, %d nodes", n, at, e, term.Size(got))
		}
	}
	ends(t, strings.Repeat("x ", 4001), 8000, api.ErrLong)
	ends(t, strings.Repeat("x ", 3999)+")", 7998, api.ErrForm)
}

// writer writes a program, and tells what is to come of it, from the grammar's lines by chance that is the same each time.
type writer struct {
	*rand.Rand
	text []byte
	left int // how many more tokens are welcome
}

// put writes a token, with a blank ahead of it, if it needs one, or by chance, and tells its place.
func (w *writer) put(s string) int {
	letter := func(c byte) bool { return '0' <= c && c <= '9' || 'a' <= c && c <= 'z' || 'A' <= c && c <= 'Z' }
	if n := len(w.text); n > 0 && letter(w.text[n-1]) && letter(s[0]) || w.Intn(4) == 0 {
		w.text = append(w.text, " \n\t"[w.Intn(3)])
	}
	w.left--
	w.text = append(w.text, s...)
	return len(w.text) - len(s)
}

func (w *writer) name() string {
	s := []string{"x", "y", "f", "abcdefghijklmnop", "xY9", "in1", "le"}[w.Intn(7)]
	w.put(s)
	return s
}

func (w *writer) exn() string {
	s := []string{"E", "Let", "X9y", "Abcdefghijklmnop"}[w.Intn(4)]
	w.put(s)
	return s
}

// behind writes a word, and then an expr.
func (w *writer) behind(s string) api.Term {
	w.put(s)
	return w.expr()
}

func (w *writer) expr() api.Term {
	if w.left < 0 || w.Intn(3) > 0 {
		return w.set()
	}
	var h api.Head
	var kids []api.Term
	switch w.Intn(5) {
	case 0:
		h.Kind, h.At, h.Name = api.KLet, w.put("let"), w.name()
		kids = []api.Term{w.behind("="), w.behind("in")}
	case 1:
		h.Kind, h.At, h.Name, h.Arg = api.KLetrec, w.put("letrec"), w.name(), w.name()
		kids = []api.Term{w.behind("="), w.behind("in")}
	case 2:
		h.Kind, h.At, h.Arg = api.KFn, w.put("fn"), w.name()
		kids = []api.Term{w.behind("=>")}
	case 3:
		h.Kind, h.At = api.KIf, w.put("if")
		kids = []api.Term{w.expr(), w.behind("then"), w.behind("else")}
	default:
		h.Kind, h.At = api.KTry, w.put("try")
		kids = []api.Term{w.expr()}
		w.put("with")
		h.Exn, h.Arg = w.exn(), w.name()
		kids = append(kids, w.behind("=>"))
	}
	return api.Term{Head: h, Kids: kids}
}

// row writes parts with signs between.
func (w *writer) row(part func() api.Term, most int, signs string) api.Term {
	t := part()
	for ; most > 0 && w.left > 0 && w.Intn(5) == 0; most-- {
		h := api.Head{Kind: api.KApp, At: t.At}
		if signs != "" {
			s := strings.Fields(signs)[w.Intn(len(strings.Fields(signs)))]
			h.Kind, h.Op = api.KOp, ops[s]
			if s == ":=" {
				h.Kind = api.KSet
			}
			w.put(s)
		}
		t = api.Term{Head: h, Kids: []api.Term{t, part()}}
	}
	return t
}

func (w *writer) set() api.Term   { return w.row(w.rel, 1, ":=") }
func (w *writer) rel() api.Term   { return w.row(w.sum, 1, "< =") }
func (w *writer) sum() api.Term   { return w.row(w.prod, 9, "+ -") }
func (w *writer) prod() api.Term  { return w.row(w.apply, 9, "*") }
func (w *writer) apply() api.Term { return w.row(w.unary, 9, "") }

func (w *writer) unary() api.Term {
	which := w.Intn(8)
	if w.left < 0 {
		which = w.Intn(2)
	}
	switch which {
	case 0:
		n := []int64{0, 1, 10, 2147483647, w.Int63n(1 << 31)}[w.Intn(5)]
		return api.Term{Head: api.Head{Kind: api.KNum, N: n, At: w.put(strconv.FormatInt(n, 10))}}
	case 1:
		s := w.name()
		return api.Term{Head: api.Head{Kind: api.KVar, Name: s, At: len(w.text) - len(s)}}
	case 2:
		h := api.Head{Kind: api.KRaise, At: w.put("raise"), Exn: w.exn()}
		return api.Term{Head: h, Kids: []api.Term{w.unary()}}
	case 3, 4:
		s := []string{"!", "ref", "fst", "snd"}[w.Intn(4)]
		h := api.Head{Kind: prefixes[s], At: w.put(s)}
		return api.Term{Head: h, Kids: []api.Term{w.unary()}}
	}
	at := w.put("(")
	t := w.expr()
	if which < 7 {
		t = api.Term{Head: api.Head{Kind: api.KPair, At: at}, Kids: []api.Term{t, w.behind(",")}}
	}
	w.put(")")
	return t
}

func TestWrittenTexts(t *testing.T) {
	t.Parallel()
	kindsSeen := map[uint8]bool{}
	greatest := 0
	for seed := range int64(4000) {
		w := &writer{Rand: rand.New(rand.NewSource(seed)), left: int(seed % 997)}
		var want api.Program
		for range w.Intn(4) {
			w.put("exn")
			s := w.exn()
			want.Exns = append(want.Exns, api.Token{Kind: api.TokExn, Text: s, At: len(w.text) - len(s)})
			w.put(";")
		}
		want.Body = w.expr()
		got, at, e := parse.Parse(w.text)
		if !same(answer{got, at, e}, answer{Program: want}) || !term.May(got.Body) {
			t.Fatalf("P5.1, P5.2: Parse(%.200q) = %d %d %v %.400s, want %v %.400s", w.text, at, e, got.Exns, full(got.Body), want.Exns, full(want.Body))
		}
		greatest = max(greatest, term.Size(want.Body))
		for _, k := range term.Kinds(want.Body) {
			kindsSeen[k] = true
		}
	}
	if len(kindsSeen) != 16 || greatest < 400 {
		t.Error("the texts have not all kinds, or none of them is long", len(kindsSeen), greatest)
	}
}

func TestAnyBytes(t *testing.T) {
	r := rand.New(rand.NewSource(5))
	for range 3000 {
		b := make([]byte, r.Intn(40))
		for i := range b {
			b[i] = byte(r.Intn(256))
		}
		sees(t, string(b))
		var l []string
		for range r.Intn(30) {
			l = append(l, words[r.Intn(len(words))])
		}
		sees(t, strings.Join(l, " "))
	}
	for _, b := range [][]byte{nil, {}} {
		if p, at, e := parse.Parse(b); at != 0 || e != api.ErrForm || len(p.Exns) != 0 || p.Body.Kind != 0 {
			t.Error("P0.5, P5.1: Parse of no bytes", p, at, e)
		}
		if x, at, e := parse.Term(b); at != 0 || e != api.ErrForm || x.Kind != 0 {
			t.Error("P0.5, P5.1: Term of no bytes", x, at, e)
		}
	}
}

// spoil writes over all that a term's lists have, the room behind their ends too.
func spoil(l []api.Term) {
	for _, t := range l {
		spoil(t.Kids)
	}
	l = l[:cap(l)]
	for i := range l {
		l[i] = api.Term{Head: api.Head{Kind: 99, Name: "spoilt"}}
	}
}

func TestAnswersAreNewMemory(t *testing.T) {
	const s = "exn A ; exn B ; letrec f x = ( f x , 1 + x ) in try f raise A 1 with B y => if y then ! ref y else a := b"
	room := []byte(s + " )")
	b := room[:len(s)] // with room behind its end
	first, _, _ := parse.Parse(b)
	want := full(first.Body)
	if string(room) != s+" )" {
		t.Error("P0.4: what was handed in is changed")
	}
	second, at, e := parse.Parse(b)
	if at != 0 || e != 0 || full(second.Body) != want || !reflect.DeepEqual(first, second) {
		t.Error("P0.4, P0.6: the same text has another answer", at, e)
	}
	for i := range room {
		room[i] = '#'
	}
	if full(first.Body) != want || first.Exns[1].Text != "B" || first.Body.Name != "f" {
		t.Error("P0.4: the bytes that were handed in are kept")
	}
	spoil([]api.Term{first.Body})
	for i := range first.Exns[:cap(first.Exns)] {
		first.Exns[:cap(first.Exns)][i] = api.Token{}
	}
	if full(second.Body) != want || second.Exns[0].Text != "A" {
		t.Error("P0.4: two answers share memory")
	}
	third, at, e := parse.Parse([]byte(s))
	if at != 0 || e != 0 || full(third.Body) != want || third.Exns[0].Text != "A" || third.Exns[1].Text != "B" {
		t.Error("P0.4, P0.6: what is written into an answer changes a later one", at, e)
	}
}

func TestListsOfOneAnswerAreApart(t *testing.T) {
	x, _, _ := parse.Term([]byte("(a b + c * d, if e then fn y => e else let z = ! g in h := i - j)"))
	var lists [][]api.Term
	var gather func(t api.Term)
	gather = func(t api.Term) {
		if len(t.Kids) > 0 {
			lists = append(lists, t.Kids[:cap(t.Kids)])
		}
		for _, k := range t.Kids {
			gather(k)
		}
	}
	gather(x)
	for i, a := range lists {
		for _, b := range lists[:i] {
			for j := range a {
				for k := range b {
					if &a[j] == &b[k] {
						t.Fatal("P0.4: two lists of one answer share memory")
					}
				}
			}
		}
	}
}

func TestCallsStandAlone(t *testing.T) {
	for range 3 { // what was asked ahead counts for nothing
		for _, s := range []string{"x", "x )", "exn E ; x", strings.Repeat("(", 4001), "#", "", "( fn x => x ) 1"} {
			sees(t, s)
		}
	}
}
