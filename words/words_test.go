package words_test

import (
	"math"
	"slices"
	"strconv"
	"strings"
	"testing"

	"enclave/api"
	"enclave/words"
)

const (
	small  = "abcdefghijklmnopqrstuvwxyz"
	great  = "ABCDEFGHIJKLMNOPQRSTUVWXYZ"
	digits = "0123456789"
)

// keywords are those of the chapter, with the numbers that it counts them by.
var keywords = map[string]int{
	"let": 1, "letrec": 2, "in": 3, "fn": 4, "if": 5, "then": 6, "else": 7,
	"raise": 8, "try": 9, "with": 10, "ref": 11, "fst": 12, "snd": 13, "exn": 14,
}

// wordOf is what the chapter says of names, byte by byte: one of first, and then letters and digits.
func wordOf(s, first string) bool {
	if len(s) < 1 || len(s) > 16 || strings.IndexByte(first, s[0]) < 0 {
		return false
	}
	for i := range len(s) {
		if strings.IndexByte(small+great+digits, s[i]) < 0 {
			return false
		}
	}
	return true
}

func nameOf(s string) bool { return wordOf(s, small) && keywords[s] == 0 }

func exnOf(s string) bool { return wordOf(s, great) }

// sees holds Keyword, Name and Exn of one text against the chapter.
func sees(t *testing.T, s string) {
	t.Helper()
	if got, want := words.Keyword(s), keywords[s]; got != want {
		t.Errorf("P2.1: Keyword(%q) = %d, want %d", s, got, want)
	}
	if got, want := words.Name(s), nameOf(s); got != want {
		t.Errorf("P2.1: Name(%q) = %t, want %t", s, got, want)
	}
	if got, want := words.Exn(s), exnOf(s); got != want {
		t.Errorf("P2.1: Exn(%q) = %t, want %t", s, got, want)
	}
}

// texts are all texts of these bytes of at most so many.
func texts(of string, most int) []string {
	all := []string{""}
	last := all
	for range most {
		var next []string
		for _, s := range last {
			for i := range len(of) {
				next = append(next, s+of[i:i+1])
			}
		}
		all = append(all, next...)
		last = next
	}
	return all
}

// anyByte is each byte once.
func anyByte() string {
	var b []byte
	for c := range 256 {
		b = append(b, byte(c))
	}
	return string(b)
}

func TestKeywords(t *testing.T) {
	for i, s := range []string{"let", "letrec", "in", "fn", "if", "then", "else", "raise", "try", "with", "ref", "fst", "snd", "exn"} {
		if n := words.Keyword(s); n != i+1 {
			t.Errorf("P2.1: Keyword(%q) = %d, want %d", s, n, i+1)
		}
		if words.Name(s) || words.Exn(s) {
			t.Errorf("P2.1: the keyword %q is a name", s)
		}
	}
}

func TestNoKeyword(t *testing.T) {
	for _, s := range []string{"", "x", "lets", "letre", "letrecs", "inn", "int", "Let", "LET", "lEt", " let", "let ", "let\n", "let in", "0", "1", "exns", "l\x00et", "get", "end", "=>", "\xff"} {
		if n := words.Keyword(s); n != 0 {
			t.Errorf("P2.1: Keyword(%q) = %d, want 0", s, n)
		}
	}
}

func TestAroundKeywords(t *testing.T) {
	for k := range keywords {
		for c := range 256 {
			b := string([]byte{byte(c)})
			sees(t, k+b)
			sees(t, b+k)
			sees(t, b+k[1:])
			sees(t, k[:len(k)-1]+b)
		}
		for i := range len(k) {
			sees(t, k[:i])
			sees(t, k[i:])
		}
		for other := range keywords {
			sees(t, k+other)
		}
		sees(t, strings.ToUpper(k))
		sees(t, strings.ToUpper(k[:1])+k[1:])
	}
	for _, s := range []string{"in1", "letX", "lets", "letr", "letre", "letrecs", "exn0", "l", "int"} {
		if !words.Name(s) || words.Keyword(s) != 0 {
			t.Errorf("P2.1: %q is no name", s)
		}
	}
	for _, s := range []string{"Let", "IN", "Exn"} {
		if !words.Exn(s) || words.Name(s) || words.Keyword(s) != 0 {
			t.Errorf("P2.1: %q is no exception's name", s)
		}
	}
}

func TestNamesAndExns(t *testing.T) {
	for _, x := range []struct {
		s         string
		name, exn bool
	}{
		{"", false, false},
		{"x", true, false},
		{"z", true, false},
		{"a", true, false},
		{"A", false, true},
		{"Z", false, true},
		{"aZ0z9A", true, false},
		{"Za0Z9a", false, true},
		{"0", false, false},
		{"9", false, false},
		{"0x", false, false},
		{"9X", false, false},
		{"_", false, false},
		{"_x", false, false},
		{"x_", false, false},
		{"X_", false, false},
		{"x'", false, false},
		{" x", false, false},
		{"x ", false, false},
		{"X\n", false, false},
		{"x y", false, false},
		{"x\x00", false, false},
		{"\x00", false, false},
		{"é", false, false},
		{"xé", false, false},
		{"É", false, false},
		{"Ünder", false, false},
		{"x\xff", false, false},
		{"x=", false, false},
		{"x,", false, false},
	} {
		if got := words.Name(x.s); got != x.name {
			t.Errorf("P2.1: Name(%q) = %t, want %t", x.s, got, x.name)
		}
		if got := words.Exn(x.s); got != x.exn {
			t.Errorf("P2.1: Exn(%q) = %t, want %t", x.s, got, x.exn)
		}
	}
}

func TestLengths(t *testing.T) {
	for n := range 40 {
		for _, s := range []string{strings.Repeat("x", n), strings.Repeat("X", n), strings.Repeat("7", n), "x" + strings.Repeat("9", n), "X" + strings.Repeat("9", n), "x" + strings.Repeat("Y", n), strings.Repeat("é", n)} {
			sees(t, s)
		}
	}
	for _, x := range []struct {
		s         string
		name, exn bool
	}{
		{"abcdefghijklmnop", true, false},
		{"abcdefghijklmnopq", false, false},
		{"ABCDEFGHIJKLMNOP", false, true},
		{"ABCDEFGHIJKLMNOPQ", false, false},
		{"x12345678901234Y", true, false},
		{"x123456789012345Y", false, false},
		{strings.Repeat("x", api.MaxBytes), false, false},
		{strings.Repeat("X", api.MaxBytes), false, false},
	} {
		if words.Name(x.s) != x.name || words.Exn(x.s) != x.exn {
			t.Errorf("P2.1: of %d bytes: %q", len(x.s), x.s)
		}
	}
}

func TestAllShortTexts(t *testing.T) {
	for _, s := range texts(anyByte(), 2) {
		sees(t, s)
	}
	for _, s := range texts("azAZ09_i n", 4) {
		sees(t, s)
	}
}

func TestAnyByteAtAnyPlace(t *testing.T) {
	for _, word := range []string{"abcdefghijklmnop", "Abcdefghijklmnop", "aB3", "A3b"} {
		for at := range len(word) {
			for c := range 256 {
				b := []byte(word)
				b[at] = byte(c)
				sees(t, string(b))
			}
		}
	}
}

func TestWhatHoldsOfAll(t *testing.T) {
	if !words.Name() || !words.Exn() || !words.Name(nil...) || !words.Exn(nil...) || !words.Name([]string{}...) || !words.Exn([]string{}...) {
		t.Error("P2.1, P0.5: of no texts all hold")
	}
	some := []string{"x", "Y", "", "in", "x1", "Y1", "9", "abcdefghijklmnopq"}
	for _, a := range some {
		for _, b := range some {
			for _, c := range some {
				if got, want := words.Name(a, b, c), nameOf(a) && nameOf(b) && nameOf(c); got != want {
					t.Errorf("P2.1: Name(%q, %q, %q) = %t, want %t", a, b, c, got, want)
				}
				if got, want := words.Exn(a, b, c), exnOf(a) && exnOf(b) && exnOf(c); got != want {
					t.Errorf("P2.1: Exn(%q, %q, %q) = %t, want %t", a, b, c, got, want)
				}
			}
		}
	}
}

func TestOneWrongOfMany(t *testing.T) {
	for _, x := range []struct {
		right, wrong string
		all          func(l ...string) bool
	}{{"x", "X", words.Name}, {"x", "let", words.Name}, {"x", "", words.Name}, {"X", "x", words.Exn}, {"X", "", words.Exn}} {
		l := slices.Repeat([]string{x.right}, 100)
		if !x.all(l...) {
			t.Errorf("P2.1: %q, a hundred times", x.right)
		}
		for at := range l {
			l[at] = x.wrong
			if x.all(l...) {
				t.Errorf("P2.1: %q among many %q, at %d", x.wrong, x.right, at)
			}
			l[at] = x.right
		}
	}
}

func TestNumber(t *testing.T) {
	for _, x := range []struct {
		s  string
		n  int64
		ok bool
	}{
		{"0", 0, true},
		{"1", 1, true},
		{"9", 9, true},
		{"10", 10, true},
		{"100", 100, true},
		{"1234567890", 1234567890, true},
		{"2147483646", 2147483646, true},
		{"2147483647", 2147483647, true},
		{"2147483648", 0, false},
		{"2147483650", 0, false},
		{"3000000000", 0, false},
		{"4294967295", 0, false},
		{"4294967296", 0, false},
		{"4294967297", 0, false},
		{"9999999999", 0, false},
		{"10000000000", 0, false},
		{"9223372036854775807", 0, false},
		{"9223372036854775808", 0, false},
		{"18446744073709551616", 0, false},
		{"18446744073709551617", 0, false},
		{"340282366920938463463374607431768211457", 0, false},
		{"1" + strings.Repeat("0", api.MaxBytes), 0, false},
		{"00", 0, false},
		{"01", 0, false},
		{"007", 0, false},
		{"0000000000", 0, false},
		{"02147483647", 0, false},
		{strings.Repeat("0", api.MaxBytes) + "1", 0, false},
		{"", 0, false},
		{"-", 0, false},
		{"-0", 0, false},
		{"-1", 0, false},
		{"-2147483648", 0, false},
		{"+", 0, false},
		{"+1", 0, false},
		{" 1", 0, false},
		{"1 ", 0, false},
		{"1\n", 0, false},
		{"1 2", 0, false},
		{"1_000", 0, false},
		{"1.0", 0, false},
		{"1e3", 0, false},
		{"0x1", 0, false},
		{"0b1", 0, false},
		{"a", 0, false},
		{"1a", 0, false},
		{"a1", 0, false},
		{"/", 0, false},
		{":", 0, false},
		{"1\x00", 0, false},
		{"\xff", 0, false},
		{"١", 0, false}, // a digit elsewhere, but of other bytes
		{"１", 0, false},
	} {
		if n, ok := words.Number(x.s); n != x.n || ok != x.ok {
			t.Errorf("P2.1: Number(%q) = %d %t, want %d %t", x.s, n, ok, x.n, x.ok)
		}
	}
}

func TestNumberOfAllShortTexts(t *testing.T) {
	numbers := map[string]int64{}
	for n := range int64(10000) {
		numbers[strconv.Itoa(int(n))] = n
	}
	for _, of := range []struct {
		bytes string
		most  int
	}{{anyByte(), 2}, {"0129-+_ ax", 4}} {
		for _, s := range texts(of.bytes, of.most) {
			want, is := numbers[s]
			if n, ok := words.Number(s); n != want || ok != is {
				t.Errorf("P2.1: Number(%q) = %d %t, want %d %t", s, n, ok, want, is)
			}
		}
	}
}

// someNumbers are numbers from 0 to MaxLit, the edges among them.
func someNumbers() []int64 {
	var l []int64
	for n := range int64(20000) {
		l = append(l, n, api.MaxLit-n)
	}
	for n := int64(1); n <= api.MaxLit; n *= 2 {
		l = append(l, n-1, n)
	}
	for n := int64(1); n <= api.MaxLit; n *= 10 {
		l = append(l, n-1, n, n+1)
	}
	for n := int64(3); n <= api.MaxLit; n += 104729 {
		l = append(l, n)
	}
	return l
}

func TestNumberIsWhatItsDigitsAre(t *testing.T) {
	for _, n := range someNumbers() {
		s := words.Digits(n)
		if got, ok := words.Number(s); got != n || !ok {
			t.Fatalf("P2.2: Number(%q) = %d %t, want %d", s, got, ok, n)
		}
		if s != digitsOf(n) {
			t.Fatalf("P2.2: Digits(%d) = %q", n, s)
		}
	}
}

func TestOtherNumbersHaveNoLiteral(t *testing.T) {
	for _, n := range []int64{-1, -2, -9, -10, -api.MaxLit, math.MinInt32, math.MinInt64, api.MaxLit + 1, api.MaxLit + 2, 1 << 32, 1<<32 + 1, 1 << 62, math.MaxInt64} {
		if got, ok := words.Number(words.Digits(n)); got != 0 || ok {
			t.Errorf("P2.2: %d is the number %d", n, got)
		}
	}
}

// digitsOf are a number's digits, worked out one by one from the last.
func digitsOf(n int64) string {
	sign, rest := "", uint64(n)
	if n < 0 {
		sign, rest = "-", -rest
	}
	s := ""
	for first := true; first || rest > 0; first = false {
		s = digits[rest%10:rest%10+1] + s
		rest /= 10
	}
	return sign + s
}

func TestDigits(t *testing.T) {
	for _, x := range []struct {
		n    int64
		want string
	}{
		{0, "0"}, {1, "1"}, {9, "9"}, {10, "10"}, {70, "70"}, {1000000, "1000000"},
		{-1, "-1"}, {-9, "-9"}, {-10, "-10"}, {-105, "-105"},
		{2147483647, "2147483647"}, {2147483648, "2147483648"}, {-2147483648, "-2147483648"}, {-2147483649, "-2147483649"},
		{math.MaxInt64, "9223372036854775807"}, {math.MinInt64 + 1, "-9223372036854775807"}, {math.MinInt64, "-9223372036854775808"},
	} {
		if got := words.Digits(x.n); got != x.want {
			t.Errorf("P2.1: Digits(%d) = %q, want %q", x.n, got, x.want)
		}
	}
	for _, n := range someNumbers() {
		for _, m := range []int64{-n, n << 31, -n << 31, math.MinInt64 + n, math.MaxInt64 - n} {
			if got, want := words.Digits(m), digitsOf(m); got != want {
				t.Fatalf("P2.1: Digits(%d) = %q, want %q", m, got, want)
			}
		}
	}
}

func TestArgumentsStay(t *testing.T) {
	for range 2 { // what was asked ahead counts for nothing
		l := []string{"x", "in", "Y"}
		if !words.Name(l[:1]...) || !words.Exn(l[2:]...) {
			t.Error("P0.4: what stands beside the list counts")
		}
		if words.Name(l...) || words.Exn(l...) {
			t.Error("P2.1: a list with a wrong one")
		}
		if !slices.Equal(l, []string{"x", "in", "Y"}) {
			t.Error("P0.4: what was handed in is changed", l)
		}
		l[1], l[2] = "y", "z"
		if !words.Name(l...) {
			t.Error("P0.4, P0.6: Name keeps a list")
		}
	}
}
