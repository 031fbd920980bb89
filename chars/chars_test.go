package chars_test

import (
	"bytes"
	"math"
	"slices"
	"strings"
	"testing"

	"enclave/api"
	"enclave/chars"
)

// classes are the bytes of each class but ClassOther, written out one by one.
var classes = []struct {
	class uint8
	bytes string
}{
	{1, " \t\n"},
	{2, "0123456789"},
	{3, "abcdefghijklmnopqrstuvwxyz"},
	{4, "ABCDEFGHIJKLMNOPQRSTUVWXYZ"},
	{5, "(),!:=>+-*<;"},
}

func classOf(c byte) uint8 {
	for _, x := range classes {
		if strings.IndexByte(x.bytes, c) >= 0 {
			return x.class
		}
	}
	return 0
}

// texts are all texts of these bytes of at most so many.
func texts(of string, most int) [][]byte {
	all := [][]byte{{}}
	last := all
	for range most {
		var next [][]byte
		for _, b := range last {
			for i := range len(of) {
				next = append(next, append(slices.Clone(b), of[i]))
			}
		}
		all = append(all, next...)
		last = next
	}
	return all
}

// placesOf are the places of b, and some ahead of it and behind it.
func placesOf(b []byte) []int {
	l := []int{math.MinInt, math.MinInt32, -2, -1, len(b) + 1, len(b) + 2, math.MaxInt32, math.MaxInt - 1, math.MaxInt}
	for at := range len(b) + 1 {
		l = append(l, at)
	}
	return l
}

func TestClassOfEachByte(t *testing.T) {
	for c := range 256 {
		if got, want := chars.Class(byte(c)), classOf(byte(c)); got != want {
			t.Errorf("P1.1: Class(%d) = %d, want %d", c, got, want)
		}
	}
}

func TestClassEdges(t *testing.T) {
	for _, x := range []struct {
		c    byte
		want uint8
	}{
		{0, api.ClassOther}, {8, api.ClassOther}, {9, api.ClassBlank}, {10, api.ClassBlank}, {11, api.ClassOther}, {12, api.ClassOther}, {13, api.ClassOther},
		{31, api.ClassOther}, {' ', api.ClassBlank}, {'!', api.ClassSign}, {'"', api.ClassOther}, {'\'', api.ClassOther}, {'(', api.ClassSign}, {'-', api.ClassSign}, {'.', api.ClassOther},
		{'/', api.ClassOther}, {'0', api.ClassDigit}, {'9', api.ClassDigit}, {':', api.ClassSign}, {'>', api.ClassSign}, {'?', api.ClassOther},
		{'@', api.ClassOther}, {'A', api.ClassGreat}, {'Z', api.ClassGreat}, {'[', api.ClassOther},
		{'_', api.ClassOther}, {'`', api.ClassOther}, {'a', api.ClassSmall}, {'z', api.ClassSmall}, {'{', api.ClassOther},
		{127, api.ClassOther}, {128, api.ClassOther}, {0xa0, api.ClassOther}, {255, api.ClassOther},
	} {
		if got := chars.Class(x.c); got != x.want {
			t.Errorf("P1.1: Class(%d) = %d, want %d", x.c, got, x.want)
		}
	}
}

func TestSpan(t *testing.T) {
	for _, x := range []struct {
		b       string
		at      int
		classes []uint8
		want    int
	}{
		{"ab c", 0, []uint8{api.ClassSmall}, 2},
		{"ab c", 1, []uint8{api.ClassSmall}, 1},
		{"ab c", 2, []uint8{api.ClassSmall}, 0},
		{"ab c", 3, []uint8{api.ClassSmall}, 1},
		{"ab c", 4, []uint8{api.ClassSmall}, 0},
		{"ab c", 5, []uint8{api.ClassSmall}, 0},
		{"ab c", -1, []uint8{api.ClassSmall}, 0},
		{"ab c", 0, []uint8{api.ClassBlank, api.ClassSmall}, 4},
		{"ab c", 0, []uint8{api.ClassSmall, api.ClassSmall}, 2},
		{"ab c", 0, nil, 0},
		{"ab c", 0, []uint8{}, 0},
		{"ab c", 0, []uint8{6, 255}, 0},
		{"ab c", 0, []uint8{6, api.ClassSmall, 255}, 2},
		{"ab1C(", 0, []uint8{api.ClassDigit, api.ClassSmall, api.ClassGreat}, 4},
		{"#\x00\xffa", 0, []uint8{api.ClassOther}, 3},
		{"\t\n \r", 0, []uint8{api.ClassBlank}, 3},
		{"é1", 0, []uint8{api.ClassOther}, 2},
		{"", 0, []uint8{api.ClassOther}, 0},
		{"", -1, []uint8{api.ClassOther}, 0},
	} {
		if got := chars.Span([]byte(x.b), x.at, x.classes...); got != x.want {
			t.Errorf("P1.1: Span(%q, %d, %v) = %d, want %d", x.b, x.at, x.classes, got, x.want)
		}
	}
}

// spanOf is Span as the chapter says it, byte by byte.
func spanOf(b []byte, at int, has [6]bool) int {
	n := 0
	for i, c := range b {
		if i == at+n && has[classOf(c)] {
			n++
		}
	}
	return n
}

func TestSpanOfAllShortTexts(t *testing.T) {
	for _, b := range texts("a\nA0(\xff", 3) {
		for set := range 1 << 6 {
			var has [6]bool
			var told []uint8
			for class := range has {
				if set>>class&1 == 1 {
					has[class] = true
					told = append(told, uint8(class))
				}
			}
			for _, at := range placesOf(b) {
				want := 0
				if at >= 0 && at < len(b) {
					want = spanOf(b, at, has)
				}
				if got := chars.Span(b, at, told...); got != want {
					t.Fatalf("P1.1: Span(%q, %d, %v) = %d, want %d", b, at, told, got, want)
				}
			}
		}
	}
}

func TestPlace(t *testing.T) {
	for _, x := range []struct {
		b                string
		at, line, column int
	}{
		{"ab\nc\n", 0, 1, 1},
		{"ab\nc\n", 1, 1, 2},
		{"ab\nc\n", 2, 1, 3}, // the line feed stands in the line that it ends
		{"ab\nc\n", 3, 2, 1},
		{"ab\nc\n", 4, 2, 2},
		{"ab\nc\n", 5, 3, 1},
		{"ab\nc\n", 6, 3, 1},
		{"ab\nc\n", math.MaxInt, 3, 1},
		{"ab\nc\n", -1, 1, 1},
		{"ab\nc\n", math.MinInt, 1, 1},
		{"abc", 3, 1, 4},
		{"abc", 4, 1, 4},
		{"\n", 0, 1, 1},
		{"\n", 1, 2, 1},
		{"\n\n\n", 2, 3, 1},
		{"\n\n\n", 3, 4, 1},
		{"é\t\rx", 4, 1, 5}, // bytes count, not what they look like
		{"", 0, 1, 1},
		{"", 1, 1, 1},
		{"", -1, 1, 1},
	} {
		if line, column := chars.Place([]byte(x.b), x.at); line != x.line || column != x.column {
			t.Errorf("P1.1: Place(%q, %d) = %d %d, want %d %d", x.b, x.at, line, column, x.line, x.column)
		}
	}
}

// placeOf is Place as the chapter says it, byte by byte.
func placeOf(b []byte, at int) (int, int) {
	line, column := 1, 1
	for i, c := range b {
		switch {
		case i >= at:
			return line, column
		case c == '\n':
			line, column = line+1, 1
		default:
			column++
		}
	}
	return line, column
}

func TestPlaceOfAllShortTexts(t *testing.T) {
	for _, b := range texts("a\n\xff", 6) {
		for _, at := range placesOf(b) {
			line, column := chars.Place(b, at)
			wantLine, wantColumn := placeOf(b, at)
			if line != wantLine || column != wantColumn {
				t.Fatalf("P1.1: Place(%q, %d) = %d %d, want %d %d", b, at, line, column, wantLine, wantColumn)
			}
		}
	}
}

func TestLaterPlacesStandFurtherOn(t *testing.T) {
	for _, b := range texts("a\n", 7) {
		for later := range len(b) + 1 {
			line, column := chars.Place(b, later)
			for at := range later {
				l, c := chars.Place(b, at)
				if l > line || l == line && c >= column {
					t.Fatalf("P1.2: of %q %d stands at %d %d, and %d at %d %d", b, at, l, c, later, line, column)
				}
			}
		}
	}
}

func TestLongText(t *testing.T) {
	b := bytes.Repeat([]byte("let x\n"), api.MaxBytes)
	if n := chars.Span(b, 0, api.ClassSmall, api.ClassBlank); n != len(b) {
		t.Error("P1.1: Span of a long text", n)
	}
	if line, column := chars.Place(b, len(b)-1); line != api.MaxBytes || column != 6 {
		t.Error("P1.1: Place in a long text", line, column)
	}
}

func TestNilIsEmpty(t *testing.T) {
	for _, at := range placesOf(nil) {
		for _, b := range [][]byte{nil, {}} {
			if n := chars.Span(b, at, 0, 1, 2, 3, 4, 5); n != 0 {
				t.Error("P0.1, P0.5: Span of no text", at, n)
			}
			if line, column := chars.Place(b, at); line != 1 || column != 1 {
				t.Error("P0.1, P0.5: Place of no text", at, line, column)
			}
		}
	}
}

func TestArgumentsStay(t *testing.T) {
	whole := []byte("ab\n12")
	room := []uint8{api.ClassSmall, api.ClassBlank, api.ClassDigit}
	for range 2 { // what was asked ahead counts for nothing
		if n := chars.Span(whole[:2], 0, room...); n != 2 {
			t.Error("P0.4: Span looks behind the text's end", n)
		}
		if n := chars.Span(whole, 0, room[:1]...); n != 2 {
			t.Error("P0.4: Span looks behind the classes' end", n)
		}
		if line, column := chars.Place(whole[:2], 4); line != 1 || column != 3 {
			t.Error("P0.4: Place looks behind the text's end", line, column)
		}
	}
	if string(whole) != "ab\n12" || !slices.Equal(room, []uint8{api.ClassSmall, api.ClassBlank, api.ClassDigit}) {
		t.Error("P0.4: what was handed in is changed", whole, room)
	}
	whole[1] = '\n'
	if line, column := chars.Place(whole, 2); line != 2 || column != 1 {
		t.Error("P0.4, P0.6: Place keeps a text", line, column)
	}
	if n := chars.Span(whole, 0, api.ClassSmall); n != 1 {
		t.Error("P0.4, P0.6: Span keeps a text", n)
	}
}
