package token_test

import (
	"regexp"
	"slices"
	"strings"
	"testing"

	"enclave/api"
	"enclave/token"
)

const keywords = " let letrec in fn if then else raise try with ref fst snd exn "

// The chapters' words as patterns, written apart from the layers below.
var (
	blanksAhead = regexp.MustCompile(`^[ \t\n]*`)
	pieceAhead  = regexp.MustCompile(`^(?:[0-9]+|[a-zA-Z][a-zA-Z0-9]*|:=|=>|[(),!=+*<;-])`)
	nameWhole   = regexp.MustCompile(`^[a-z][a-zA-Z0-9]{0,15}$`)
	exnWhole    = regexp.MustCompile(`^[A-Z][a-zA-Z0-9]{0,15}$`)
	numWhole    = regexp.MustCompile(`^(?:0|[1-9][0-9]{0,9})$`)
	signWhole   = regexp.MustCompile(`^(?::=|=>|[(),!=+*<;-])$`)
)

// kindOf is a piece's kind, as the chapters say it; 0, if it is no token.
func kindOf(s string) uint8 {
	switch {
	case numWhole.MatchString(s) && (len(s) < 10 || s <= "2147483647"):
		return 1
	case strings.Contains(keywords, " "+s+" "):
		return 4
	case nameWhole.MatchString(s):
		return 2
	case exnWhole.MatchString(s):
		return 3
	case signWhole.MatchString(s):
		return 5
	}
	return 0
}

// lexOf is Lex as the chapter says it, by patterns.
func lexOf(s string) ([]api.Token, int, api.Errno) {
	if len(s) > 65536 {
		return nil, 0, 3
	}
	var l []api.Token
	at := len(blanksAhead.FindString(s))
	for at < len(s) {
		text := pieceAhead.FindString(s[at:])
		kind := kindOf(text)
		if kind == 0 {
			return nil, at, 2
		}
		l = append(l, api.Token{Kind: kind, Text: text, At: at})
		at += len(text)
		at += len(blanksAhead.FindString(s[at:]))
	}
	return append(l, api.Token{Kind: 6, At: len(s)}), 0, 0
}

// few are the first tokens of a list, as many as are worth telling.
func few(l []api.Token) []api.Token { return l[:min(len(l), 16)] }

// sees holds Lex of one text against the chapter, and Join of what it answers. It stops at the first fault: where many texts are gone through, more of them tell nothing new.
func sees(t *testing.T, s string) {
	t.Helper()
	l, at, e := token.Lex([]byte(s))
	wantL, wantAt, wantE := lexOf(s)
	if at != wantAt || e != wantE || !slices.Equal(l, wantL) {
		t.Fatalf("P3.1: Lex(%.80q) = %v %d %d, want %v %d %d", s, few(l), at, e, few(wantL), wantAt, wantE)
	}
	if e == api.OK {
		joins(t, l)
	}
}

// joins holds Join of a text's tokens against the chapter: their texts, a blank between, which are cut into the same.
func joins(t *testing.T, l []api.Token) {
	t.Helper()
	s := token.Join(l...)
	if want := joinOf(l); s != want {
		t.Fatalf("P3.1: Join(%v) = %.80q, want %.80q", few(l), s, want)
	}
	again, at, e := token.Lex([]byte(s))
	if at != 0 || e != api.OK || !slices.Equal(bare(again), bare(l)) {
		t.Fatalf("P3.2: Lex(%.80q) = %v %d %d, but it was joined of %v", s, few(again), at, e, few(l))
	}
}

func joinOf(l []api.Token) string {
	s := ""
	for i, x := range l {
		if i > 0 {
			s += " "
		}
		s += x.Text
	}
	return s
}

// bare are tokens without their places.
func bare(l []api.Token) []api.Token {
	l = slices.Clone(l)
	for i := range l {
		l[i].At = 0
	}
	return l
}

// texts are all texts of these bytes of at most so many.
func texts(of string, most int) []string {
	all := []string{""}
	last := all
	for range most {
		var next []string
		for _, s := range last {
			for i := range len(of) {
				next = append(next, s+of[i:i+1])
			}
		}
		all = append(all, next...)
		last = next
	}
	return all
}

// anyByte is each byte once.
func anyByte() string {
	var b []byte
	for c := range 256 {
		b = append(b, byte(c))
	}
	return string(b)
}

// some are tokens of each kind, the edges among them.
var some = []struct {
	text string
	kind uint8
}{
	{"0", api.TokNum}, {"1", api.TokNum}, {"9", api.TokNum}, {"10", api.TokNum}, {"2147483647", api.TokNum},
	{"x", api.TokName}, {"zZ9", api.TokName}, {"in1", api.TokName}, {"letx", api.TokName}, {"le", api.TokName}, {"exns", api.TokName}, {"iN", api.TokName}, {"abcdefghijklmnop", api.TokName}, {"x00000000000000Y", api.TokName},
	{"E", api.TokExn}, {"Zz9", api.TokExn}, {"Let", api.TokExn}, {"IN", api.TokExn}, {"Abcdefghijklmnop", api.TokExn},
	{"let", api.TokWord}, {"letrec", api.TokWord}, {"in", api.TokWord}, {"fn", api.TokWord}, {"if", api.TokWord}, {"then", api.TokWord}, {"else", api.TokWord}, {"raise", api.TokWord}, {"try", api.TokWord}, {"with", api.TokWord}, {"ref", api.TokWord}, {"fst", api.TokWord}, {"snd", api.TokWord}, {"exn", api.TokWord},
	{":=", api.TokSign}, {"=>", api.TokSign}, {"(", api.TokSign}, {")", api.TokSign}, {",", api.TokSign}, {"!", api.TokSign}, {"=", api.TokSign}, {"+", api.TokSign}, {"-", api.TokSign}, {"*", api.TokSign}, {"<", api.TokSign}, {";", api.TokSign},
}

func TestOneToken(t *testing.T) {
	for _, x := range some {
		for _, ahead := range []string{"", " ", "\t", "\n", " \n\t  "} {
			for _, behind := range []string{"", " ", "\t", "\n", "\t\n "} {
				s := ahead + x.text + behind
				want := []api.Token{{Kind: x.kind, Text: x.text, At: len(ahead)}, {Kind: api.TokEnd, At: len(s)}}
				if l, at, e := token.Lex([]byte(s)); at != 0 || e != api.OK || !slices.Equal(l, want) {
					t.Errorf("P3.1: Lex(%q) = %v %d %d, want %v", s, l, at, e, want)
				}
			}
		}
	}
}

func TestTwoTokensApart(t *testing.T) {
	for _, x := range some {
		for _, y := range some {
			for _, between := range []string{" ", "\t", "\n", " \t\n "} {
				s := x.text + between + y.text
				want := []api.Token{{Kind: x.kind, Text: x.text}, {Kind: y.kind, Text: y.text, At: len(x.text + between)}, {Kind: api.TokEnd, At: len(s)}}
				if l, at, e := token.Lex([]byte(s)); at != 0 || e != api.OK || !slices.Equal(l, want) {
					t.Errorf("P3.1: Lex(%q) = %v %d %d, want %v", s, l, at, e, want)
				}
			}
		}
	}
}

func TestTokensSideBySide(t *testing.T) {
	for _, x := range some {
		for _, y := range some {
			sees(t, x.text+y.text)
			for _, z := range some {
				sees(t, x.text+y.text+z.text)
			}
		}
	}
}

func TestWhereTokensPart(t *testing.T) {
	for _, x := range []struct{ s, texts, kinds string }{
		{"x:=1", "x := 1 ", "2516"},
		{"1x", "1 x ", "126"},
		{"1E", "1 E ", "136"},
		{"1in", "1 in ", "146"},
		{"1(", "1 ( ", "156"},
		{"12", "12 ", "16"},
		{"0x1", "0 x1 ", "126"},
		{"1e3", "1 e3 ", "126"},
		{"x1", "x1 ", "26"},
		{"xE", "xE ", "26"},
		{"xin", "xin ", "26"},
		{"xy", "xy ", "26"},
		{"x)", "x ) ", "256"},
		{"E1", "E1 ", "36"},
		{"Ex", "Ex ", "36"},
		{"EF", "EF ", "36"},
		{"Ein", "Ein ", "36"},
		{"E;", "E ; ", "356"},
		{"in1", "in1 ", "26"},
		{"inx", "inx ", "26"},
		{"inE", "inE ", "26"},
		{"in(", "in ( ", "456"},
		{"letin", "letin ", "26"},
		{"letrec", "letrec ", "46"},
		{"let rec", "let rec ", "426"},
		{"fnx=>x", "fnx => x ", "2526"},
		{"-1", "- 1 ", "516"},
		{"+x", "+ x ", "526"},
		{"!E", "! E ", "536"},
		{"(fst", "( fst ", "546"},
		{"a-b", "a - b ", "2526"},
		{"1+2", "1 + 2 ", "1516"},
		{"(1,2)", "( 1 , 2 ) ", "515156"},
		{"()", "( ) ", "556"},
		{"!!x", "! ! x ", "5526"},
		{"--", "- - ", "556"},
		{"=", "= ", "56"},
		{"==", "= = ", "556"},
		{"=>", "=> ", "56"},
		{"==>", "= => ", "556"},
		{"=>=", "=> = ", "556"},
		{"=>=>", "=> => ", "556"},
		{":=", ":= ", "56"},
		{":==", ":= = ", "556"},
		{":==>", ":= => ", "556"},
		{":=:=", ":= := ", "556"},
		{"=:=", "= := ", "556"},
		{"=>:=", "=> := ", "556"},
		{"<=", "< = ", "556"},
		{"<=>", "< => ", "556"},
		{"x=y", "x = y ", "2526"},
		{"x=>y", "x => y ", "2526"},
		{"exn E;raise E 3", "exn E ; raise E 3 ", "4354316"},
	} {
		l, at, e := token.Lex([]byte(x.s))
		kinds := ""
		for _, y := range l {
			kinds += string('0' + rune(y.Kind))
		}
		if at != 0 || e != api.OK || kinds != x.kinds || joinOf(l) != x.texts {
			t.Errorf("P3.1: Lex(%q) = %v %d %d, want the kinds %s of %q", x.s, l, at, e, x.kinds, x.texts)
		}
		sees(t, x.s)
	}
}

func TestNoTokenBegins(t *testing.T) {
	for _, x := range []struct {
		s  string
		at int
	}{
		{":", 0}, {"x:", 1}, {"x : = y", 2}, {"x: =y", 1}, {"::=", 0}, {":=:", 2}, {":>", 0}, {":=>", 2}, {"=:", 1}, {":\n", 0},
		{">", 0}, {"x>", 1}, {"= >", 2}, {"=>>", 2}, {">=", 0}, {"=\n>", 2}, {"<>", 1}, {"a>b", 1},
		{"00", 0}, {"01", 0}, {"007", 0}, {"1 00 x", 2}, {"x 01", 2}, {"(09)", 1}, {"0 0 00", 4},
		{"2147483648", 0}, {"9999999999", 0}, {"10000000000", 0}, {"x=4294967297", 2}, {"-2147483648", 1}, {"18446744073709551617", 0}, {strings.Repeat("9", 1000) + " ", 0},
		{"abcdefghijklmnopq", 0}, {"Abcdefghijklmnopq", 0}, {" abcdefghijklmnopq", 1}, {"x abcdefghijklmnop1 y", 2}, {"in ABCDEFGHIJKLMNOPQ", 3}, {"1abcdefghijklmnopq", 1}, {"letletletletletin", 0},
		{"#", 0}, {"x #", 2}, {"x# :", 1}, {"\r", 0}, {"x\r\n", 1}, {"\v", 0}, {"\f", 0}, {"\x00", 0}, {"x\x00", 1}, {"\xff", 0}, {"é", 0}, {"xé", 1}, {"x_y", 1}, {"1.5", 1}, {"1_0", 1}, {"x'", 1}, {"\"x\"", 0}, {"{x}", 0}, {"x/y", 1}, {"x & y", 2}, {"٣", 0}, {"\ufeffx", 0}, {"\u00a0", 0},
		{"\n\n  #", 4}, {"# #", 0}, {"x 01 #", 2}, {"x : 01", 2}, // the first one is told
	} {
		if l, at, e := token.Lex([]byte(x.s)); at != x.at || e != api.ErrForm || len(l) != 0 {
			t.Errorf("P3.1, P0.2: Lex(%.80q) = %v %d %d, want none at %d", x.s, few(l), at, e, x.at)
		}
		sees(t, x.s)
	}
}

func TestNoText(t *testing.T) {
	for _, b := range [][]byte{nil, {}} {
		if l, at, e := token.Lex(b); at != 0 || e != api.OK || !slices.Equal(l, []api.Token{{Kind: api.TokEnd}}) {
			t.Error("P3.1, P0.5: Lex of no text", l, at, e)
		}
	}
}

func TestEndBehindBlanks(t *testing.T) {
	for _, blanks := range texts(" \t\n", 4) {
		for _, ahead := range []string{"", "x", "1", ":=", "="} {
			s := ahead + blanks
			l, _, e := token.Lex([]byte(s))
			if e != api.OK || len(l) == 0 || l[len(l)-1] != (api.Token{Kind: api.TokEnd, At: len(s)}) {
				t.Errorf("P3.1: Lex(%q) = %v %d, want the end at %d", s, l, e, len(s))
			}
			sees(t, s)
		}
	}
}

func TestLongTexts(t *testing.T) {
	const most = 1 << 16
	for _, x := range []struct {
		piece  string
		tokens int // of MaxBytes bytes, the end among them; 0, if they are none
		at     int
	}{{" ", 1, 0}, {"\n", 1, 0}, {"(", most + 1, 0}, {"=", most + 1, 0}, {":=", most/2 + 1, 0}, {"x ", most/2 + 1, 0}, {"let x = 1 in\n   ", most/16*5 + 1, 0}, {"x", 0, 0}, {"X", 0, 0}, {"1", 0, 0}, {"0", 0, 0}, {"x       ( 1 + :#", 0, 14}} {
		s := strings.Repeat(x.piece, most/len(x.piece))
		l, at, e := token.Lex([]byte(s))
		if x.tokens > 0 {
			if at != 0 || e != api.OK || len(l) != x.tokens || l[len(l)-1] != (api.Token{Kind: api.TokEnd, At: most}) {
				t.Errorf("P3.1: Lex of MaxBytes bytes of %q: %d tokens, %d %d", x.piece, len(l), at, e)
			}
		} else if at != x.at || e != api.ErrForm || len(l) != 0 {
			t.Errorf("P3.1: Lex of MaxBytes bytes of %q: %d tokens, %d %d, want none at %d", x.piece, len(l), at, e, x.at)
		}
		for _, more := range []string{" ", "x", "#"} {
			for _, long := range []string{s + more, more + s, s + more + s} {
				if l, at, e := token.Lex([]byte(long)); at != 0 || e != api.ErrLong || len(l) != 0 {
					t.Errorf("P3.1, P0.2: Lex of %d bytes of %q: %d tokens, %d %d", len(long), x.piece, len(l), at, e)
				}
			}
		}
	}
	// MaxTokens is no matter of this layer.
	if l, _, e := token.Lex([]byte(strings.Repeat("x ", api.MaxTokens+1))); e != api.OK || len(l) != api.MaxTokens+2 {
		t.Error("P3.1: Lex of more than MaxTokens tokens", len(l), e)
	}
}

func TestErrorBehindManyTokens(t *testing.T) {
	s := strings.Repeat("x ", api.MaxBytes/2-1) + "y"
	for _, x := range []struct {
		last string
		at   int
	}{{"#", api.MaxBytes - 1}, {":", api.MaxBytes - 1}, {">", api.MaxBytes - 1}, {"\xff", api.MaxBytes - 1}} {
		if l, at, e := token.Lex([]byte(s + x.last)); at != x.at || e != api.ErrForm || len(l) != 0 {
			t.Errorf("P3.1, P0.2: %q behind many tokens: %d tokens, %d %d", x.last, len(l), at, e)
		}
	}
}

func TestAllShortTexts(t *testing.T) {
	for _, of := range []struct {
		bytes string
		most  int
	}{{anyByte(), 2}, {"aA01:=> \n(-#", 4}, {":=> x", 6}, {"019 x", 6}, {"in1E ", 6}} {
		for _, s := range texts(of.bytes, of.most) {
			sees(t, s)
		}
	}
}

func TestAnyByteAtAnyPlace(t *testing.T) {
	for _, s := range []string{"exn E;\n\tlet x2=(1,!y) in raise E x2:=fn z=>z<3", "abcdefghijklmnop", "Abcdefghijklmnop 2147483647", "try a-b*c+0 with E x=>x"} {
		for at := range len(s) + 1 {
			for c := range 256 {
				b := string([]byte{byte(c)})
				sees(t, s[:at]+b+s[at:])
				if at < len(s) {
					sees(t, s[:at]+b+s[at+1:])
				}
			}
		}
	}
}

func TestJoin(t *testing.T) {
	x, one, end := api.Token{Kind: api.TokName, Text: "x"}, api.Token{Kind: api.TokNum, Text: "1", At: 7}, api.Token{Kind: api.TokEnd, At: 8}
	for _, c := range []struct {
		l    []api.Token
		want string
	}{
		{nil, ""},
		{[]api.Token{}, ""},
		{[]api.Token{x}, "x"},
		{[]api.Token{end}, ""},
		{[]api.Token{end, end}, " "},
		{[]api.Token{x, one}, "x 1"},
		{[]api.Token{one, x, one}, "1 x 1"},
		{[]api.Token{x, end}, "x "},
		{[]api.Token{end, x}, " x"},
		{[]api.Token{x, end, one}, "x  1"},
		{[]api.Token{end, x, end, end, one, end}, " x   1 "},
		{[]api.Token{{}}, ""},
		{[]api.Token{{}, {}, {}}, "  "},
		// What is no token is put as it stands.
		{[]api.Token{{Kind: 255, Text: "no token\n", At: -1}, {Text: "\xff\x00"}, {Kind: api.TokEnd, Text: ":"}, {Kind: api.TokNum, Text: " "}}, "no token\n \xff\x00 :  "},
	} {
		if s := token.Join(c.l...); s != c.want {
			t.Errorf("P3.1: Join(%v) = %q, want %q", c.l, s, c.want)
		}
	}
	if s := token.Join(); s != "" {
		t.Errorf("P3.1, P0.5: Join of none is %q", s)
	}
	if s, want := token.Join(slices.Repeat([]api.Token{x}, 100000)...), strings.Repeat("x ", 100000); s != want[:len(want)-1] {
		t.Error("P3.1: Join of many", len(s))
	}
}

func TestJoinedIsCutIntoTheSame(t *testing.T) {
	for _, x := range some {
		for _, y := range some {
			l := []api.Token{{Kind: x.kind, Text: x.text}, {Kind: y.kind, Text: y.text}, {Kind: api.TokEnd}}
			joins(t, l)
			again, _, _ := token.Lex([]byte(token.Join(l[:2]...)))
			if !slices.Equal(bare(again), l) {
				t.Errorf("P3.2: %q and %q without the end are cut into %v", x.text, y.text, again)
			}
		}
	}
	// The longest that can be joined: with the blanks it has MaxBytes bytes.
	l, _, _ := token.Lex([]byte(strings.Repeat("(", api.MaxBytes/2)))
	if s := token.Join(l...); len(s) != api.MaxBytes {
		t.Error("P3.1: Join", len(s))
	}
	joins(t, l)
}

func TestArgumentsStay(t *testing.T) {
	whole := []byte("let1 :=>")
	for range 2 { // what was asked ahead counts for nothing
		for _, n := range []int{3, 6} {
			l, _, e := token.Lex(whole[:n])
			if want, _, wantE := lexOf("let1 :=>"[:n]); e != wantE || !slices.Equal(l, want) {
				t.Error("P0.4: Lex looks behind the text's end", l, e)
			}
		}
		if string(whole) != "let1 :=>" {
			t.Error("P0.4: what was handed in is changed", string(whole))
		}
	}
	b := []byte("x := 1")
	l, _, _ := token.Lex(b)
	copy(b, "######")
	if want, _, _ := lexOf("x := 1"); !slices.Equal(l, want) {
		t.Error("P0.4: the answer shares the text", l)
	}
}

func TestAnswersAreNew(t *testing.T) {
	want, _, _ := lexOf("x := 1")
	for range 2 {
		l, _, _ := token.Lex([]byte("x := 1"))
		if !slices.Equal(l, want) {
			t.Error("P0.4, P0.6: Lex hangs on what was done with its answer", l)
		}
		for i := range l[:cap(l)] {
			l[:cap(l)][i] = api.Token{Kind: 9, Text: "#", At: -1}
		}
		if end, _, _ := token.Lex(nil); !slices.Equal(end, []api.Token{{Kind: api.TokEnd}}) {
			t.Error("P0.4: two answers share a list", end)
		} else {
			end[0].Text = "#"
		}
	}
}

func TestJoinLeavesItsTokens(t *testing.T) {
	l := []api.Token{{Kind: api.TokName, Text: "x"}, {Kind: api.TokNum, Text: "1", At: 2}, {Kind: api.TokEnd, At: 3}}
	kept := slices.Clone(l)
	for range 2 {
		if s := token.Join(l[:1]...); s != "x" {
			t.Errorf("P0.4: Join looks behind the list's end: %q", s)
		}
		if !slices.Equal(l, kept) {
			t.Error("P0.4: what was handed in is changed", l)
		}
	}
	s := token.Join(l...)
	l[0].Text = "y"
	if s != "x 1 " || token.Join(l...) != "y 1 " {
		t.Error("P0.4, P0.6: Join keeps a list")
	}
}
