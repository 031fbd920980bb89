package term_test

import (
	"fmt"
	"math"
	"reflect"
	"slices"
	"strings"
	"testing"

	"enclave/api"
	"enclave/term"
)

// row is a line of the chapter's table: a kind, its fields, and how many kids it has.
type row struct {
	kind   uint8
	fields string
	kids   int
}

var table = []row{
	{1, "N", 0}, {2, "Name", 0}, {3, "", 2}, {4, "", 1}, {5, "", 1}, {6, "", 1}, {7, "", 1}, {8, "", 2},
	{9, "Op", 2}, {10, "", 2}, {11, "Arg", 1}, {12, "Name", 2}, {13, "Name Arg", 2}, {14, "", 3}, {15, "Exn", 1}, {16, "Exn Arg", 2},
}

var fields = []string{"N", "Op", "Name", "Arg", "Exn"}

func (r row) has(field string) bool { return slices.Contains(strings.Fields(r.fields), field) }

// rowOf is the line of a kind, and whether there is one.
func rowOf(kind uint8) (row, bool) {
	for _, r := range table {
		if r.kind == kind {
			return r, true
		}
	}
	return row{}, false
}

// put puts something ordinary into a field.
func put(h *api.Head, field string) {
	switch field {
	case "N":
		h.N = 5
	case "Op":
		h.Op = 2
	case "Name":
		h.Name = "x"
	case "Arg":
		h.Arg = "y1"
	case "Exn":
		h.Exn = "E"
	}
}

func num(n int64) api.Term { return api.Term{Head: api.Head{Kind: 1, N: n}} }

func nums(n int) []api.Term {
	var l []api.Term
	for i := range n {
		l = append(l, num(int64(i)))
	}
	return l
}

func of(h api.Head, kids ...api.Term) api.Term { return api.Term{Head: h, Kids: kids} }

// plain is a term of a line that may be, if its kids may.
func plain(r row, kids ...api.Term) api.Term {
	t := api.Term{Head: api.Head{Kind: r.kind}, Kids: kids}
	for _, f := range strings.Fields(r.fields) {
		put(&t.Head, f)
	}
	return t
}

// whole is a term that may be and has each kind, some of them one in the other.
func whole() api.Term {
	x, y := of(api.Head{Kind: 2, Name: "x"}), of(api.Head{Kind: 2, Name: "y"})
	less := of(api.Head{Kind: 9, Op: 4, At: 20}, x, num(1))
	cond := of(api.Head{Kind: 14}, less, of(api.Head{Kind: 4}, of(api.Head{Kind: 3, At: 33}, num(0), x)), of(api.Head{Kind: 5}, x))
	tries := of(api.Head{Kind: 16, Exn: "E", Arg: "y"}, of(api.Head{Kind: 15, Exn: "E2"}, of(api.Head{Kind: 7}, of(api.Head{Kind: 6}, num(2147483647)))), of(api.Head{Kind: 8}, y, num(3)))
	lets := of(api.Head{Kind: 12, Name: "g"}, of(api.Head{Kind: 11, Arg: "z", At: 60}, y), of(api.Head{Kind: 10}, x, tries))
	return of(api.Head{Kind: 13, Name: "f", Arg: "x"}, cond, of(api.Head{Kind: 9, Op: 5}, lets, of(api.Head{Kind: 9, Op: 1}, num(1), num(1))))
}

// clone is a term that shares no memory with another one.
func clone(t api.Term) api.Term {
	kids := t.Kids
	t.Kids = nil
	for _, k := range kids {
		t.Kids = append(t.Kids, clone(k))
	}
	return t
}

// node is the node of t that has left others ahead of it; nil, if there are too few.
func node(t *api.Term, left int) *api.Term {
	for row := []*api.Term{t}; len(row) > 0; left-- {
		t, row = row[0], row[1:]
		if left == 0 {
			return t
		}
		for i := range t.Kids {
			row = slices.Insert(row, i, &t.Kids[i])
		}
	}
	return nil
}

func TestEachKindFieldsAndKids(t *testing.T) {
	for kind := range 256 {
		r, is := rowOf(uint8(kind))
		for set := range 1 << len(fields) {
			h, want := api.Head{Kind: uint8(kind)}, is
			for i, f := range fields {
				if set>>i&1 == 1 {
					put(&h, f)
					want = want && r.has(f)
				} else if f != "N" { // N may be 0
					want = want && !r.has(f)
				}
			}
			for kids := range 6 {
				if got := term.May(of(h, nums(kids)...)); got != (want && kids == r.kids) {
					t.Errorf("P4.1: May of %+v with %d kids = %t", h, kids, got)
				}
			}
		}
	}
}

func TestFieldsTooMuch(t *testing.T) {
	for _, r := range table {
		for _, h := range []api.Head{
			{N: 1}, {N: -1}, {N: 2147483647}, {N: 1 << 32}, {N: math.MinInt64},
			{Op: 1}, {Op: 5}, {Op: 6}, {Op: 255},
			{Name: "x"}, {Name: "in"}, {Name: "X"}, {Name: " "}, {Name: "\x00"},
			{Arg: "x"}, {Arg: "in"}, {Arg: "X"}, {Arg: " "}, {Arg: "\x00"},
			{Exn: "E"}, {Exn: "e"}, {Exn: " "}, {Exn: "\x00"},
		} {
			x, field := plain(r, nums(r.kids)...), ""
			switch {
			case h.N != 0:
				field, x.N = "N", h.N
			case h.Op != 0:
				field, x.Op = "Op", h.Op
			case h.Name != "":
				field, x.Name = "Name", h.Name
			case h.Arg != "":
				field, x.Arg = "Arg", h.Arg
			default:
				field, x.Exn = "Exn", h.Exn
			}
			if !r.has(field) && term.May(x) {
				t.Errorf("P4.1: kind %d may be with %s: %+v", r.kind, field, x.Head)
			}
		}
	}
}

func TestNumbers(t *testing.T) {
	for _, x := range []struct {
		n   int64
		may bool
	}{
		{0, true}, {1, true}, {10, true}, {2147483646, true}, {2147483647, true},
		{2147483648, false}, {4294967295, false}, {4294967296, false}, {4294967297, false}, {1 << 62, false}, {math.MaxInt64, false},
		{-1, false}, {-2, false}, {-2147483647, false}, {-2147483648, false}, {math.MinInt64 + 1, false}, {math.MinInt64, false},
	} {
		if term.May(num(x.n)) != x.may || term.May(plain(table[3], num(x.n))) != x.may {
			t.Errorf("P4.1: May of the number %d isn't %t", x.n, x.may)
		}
	}
}

func TestOps(t *testing.T) {
	for op := range 256 {
		if got, want := term.May(of(api.Head{Kind: 9, Op: uint8(op)}, nums(2)...)), 1 <= op && op <= 5; got != want {
			t.Errorf("P4.1: May of the operation %d = %t", op, got)
		}
	}
	for i, op := range []uint8{api.OpAdd, api.OpSub, api.OpMul, api.OpLess, api.OpSame} {
		if int(op) != i+1 {
			t.Errorf("P4.1: the operation %d has the number %d", i+1, op)
		}
	}
}

func TestNames(t *testing.T) {
	names := []string{"x", "z9", "aB0", "abcdefghijklmnop", "int", "in1", "lets", "lEt"}
	exns := []string{"E", "Z9", "Ab0", "ABCDEFGHIJKLMNOP", "In", "Let", "EXN"}
	neither := []string{"", "let", "letrec", "in", "fn", "if", "then", "else", "raise", "try", "with", "ref", "fst", "snd", "exn",
		"abcdefghijklmnopq", "ABCDEFGHIJKLMNOPQ", "0", "0x", "_", "x_", "X_", " x", "x ", "x y", "E ", "x\n", "x\x00", "é", "É", "xé", "Eé", "\xff", ":=", "x'"}
	for _, r := range table {
		for _, f := range strings.Fields(r.fields) {
			for i, s := range slices.Concat(names, exns, neither) {
				x, want := plain(r, nums(r.kids)...), false
				switch f {
				case "Name":
					x.Name, want = s, i < len(names)
				case "Arg":
					x.Arg, want = s, i < len(names)
				case "Exn":
					x.Exn, want = s, len(names) <= i && i < len(names)+len(exns)
				default:
					continue
				}
				if got := term.May(x); got != want {
					t.Errorf("P4.1: May of kind %d with %s %q = %t", r.kind, f, s, got)
				}
			}
		}
	}
	if !term.May(of(api.Head{Kind: 13, Name: "f", Arg: "f"}, nums(2)...)) {
		t.Error("P4.1: both names may be the same")
	}
}

func TestPlaces(t *testing.T) {
	for _, r := range table {
		for _, at := range []int{0, 1, 65536, math.MaxInt, -1, -2, math.MinInt32, math.MinInt} {
			x := plain(r, nums(r.kids)...)
			x.At = at
			if term.May(x) != (at >= 0) || term.May(plain(table[2], num(1), x)) != (at >= 0) {
				t.Errorf("P4.1: May of kind %d at %d isn't %t", r.kind, at, at >= 0)
			}
		}
	}
}

// chain has just so many nodes, each with kids of a line, the next of them standing in the kid at a place; where the kids are too many for the rest, fst stands in their stead.
func chain(r row, place, nodes int) api.Term {
	t := num(1)
	rest := nodes - 1
	for ; rest%r.kids != 0; rest-- {
		t = plain(table[3], t)
	}
	for ; rest > 0; rest -= r.kids {
		kids := nums(r.kids)
		kids[place] = t
		t = plain(r, kids...)
	}
	return t
}

// broad has just so many nodes, and as few of them in one another as it can.
func broad(nodes int) api.Term {
	switch {
	case nodes == 1:
		return num(1)
	case nodes == 2:
		return plain(table[4], num(1))
	case nodes == 3:
		return plain(table[7], nums(2)...)
	}
	rest := nodes - 1
	return plain(table[13], broad(rest/3), broad((rest+1)/3), broad((rest+2)/3))
}

func TestMostNodes(t *testing.T) {
	for _, n := range []int{1, 2, 3, 4, 5, 100, 3998, 3999, 4000, 4001, 4002, 8000, 20000} {
		try := func(x api.Term) {
			t.Helper()
			if got := term.Size(x); got != n {
				t.Fatalf("P4.1: Size of %d nodes = %d", n, got)
			}
			if got, want := term.May(x), n <= 4000; got != want {
				t.Errorf("P4.1: May of %d nodes = %t", n, got)
			}
		}
		try(broad(n))
		for _, r := range table {
			for place := range r.kids {
				try(chain(r, place, n))
			}
		}
	}
	if api.MaxNodes != 4000 {
		t.Error("P4.1: MaxNodes", api.MaxNodes)
	}
}

func TestManyNodes(t *testing.T) {
	long := chain(table[6], 0, 1<<16)
	if term.May(long) || term.Size(long) != 1<<16 || term.Depth(long) != 1<<16 || len(term.Kinds(long)) != 1<<16 || !term.Has(1, long) || term.Has(2, long) || !term.Same(long, clone(long)) || term.Same(long, long.Kids[0]) {
		t.Error("P0.1, P4.1: of 2^16 nodes, one in the other")
	}
	full := num(1)
	for range 16 { // both kids are the same memory
		full = plain(table[2], full, full)
	}
	if term.May(full) || term.Size(full) != 1<<17-1 || term.Depth(full) != 17 || len(term.Kinds(full)) != 1<<17-1 || !term.Has(1, full) || term.Has(4, full) || !term.Same(full, full) || term.Same(full, full.Kids[0]) {
		t.Error("P0.1, P4.1: of 2^17 - 1 nodes")
	}
	flat := plain(table[0], nums(1<<17)...)
	if term.May(flat) || term.Size(flat) != 1<<17+1 || term.Depth(flat) != 2 || len(term.Kinds(flat)) != 1<<17+1 || !term.Same(flat, clone(flat)) {
		t.Error("P0.1, P4.1: of 2^17 kids")
	}
	ring := make([]api.Term, 1)
	ring[0] = plain(table[3], ring...)
	ring[0].Kids = ring
	if term.May(ring[0]) {
		t.Error("P0.1, P4.1: what stands in itself has too many nodes")
	}
}

// spoils are what may be done to any node, so that it may not be.
func spoils() []func(x *api.Term) {
	return []func(x *api.Term){
		func(x *api.Term) { x.Kind = 0 },
		func(x *api.Term) { x.Kind = 17 },
		func(x *api.Term) { x.Kind = 18 },
		func(x *api.Term) { x.Kind = 255 },
		func(x *api.Term) { x.Kids = append(x.Kids, num(1)) },
		func(x *api.Term) { x.Kids = append(x.Kids, of(api.Head{Kind: 2, Name: "x"}), num(1)) },
		func(x *api.Term) { x.At = -1 },
		func(x *api.Term) { x.N = -1 },
		func(x *api.Term) { x.N = 1 << 31 },
		func(x *api.Term) { x.Op = 6 },
		func(x *api.Term) { x.Name = "in" },
		func(x *api.Term) { x.Arg = "In" },
		func(x *api.Term) { x.Exn = "e" },
		func(x *api.Term) { *x = api.Term{} },
	}
}

func TestWhatMayNotBeFarWithin(t *testing.T) {
	if !term.May(whole()) {
		t.Fatal("P4.1: the whole may be")
	}
	size := term.Size(whole())
	for at := range size {
		for i, spoil := range spoils() {
			x := clone(whole())
			spoil(node(&x, at))
			if term.May(x) || term.May(plain(table[2], num(1), x)) {
				t.Errorf("P4.1: it may be with the node %d spoilt by %d", at, i)
			}
		}
		x := clone(whole())
		if n := node(&x, at); len(n.Kids) > 0 {
			n.Kids = n.Kids[1:]
			if term.May(x) {
				t.Errorf("P4.1: it may be with a kid of the node %d missing", at)
			}
		}
	}
	if n := whole(); node(&n, size) != nil {
		t.Errorf("P4.1: Size = %d", size)
	}
	for _, r := range table {
		for place := range r.kids {
			x := chain(r, place, 3999)
			inmost := &x
			for inmost.Kind == r.kind {
				inmost = &inmost.Kids[place]
			}
			inmost.N = -1
			if term.May(x) {
				t.Errorf("P4.1: it may be with its inmost node spoilt, in kind %d, kid %d", r.kind, place)
			}
		}
	}
}

// steps are how deep each of n nodes may stand, told in order: the first one at 1, each at most one deeper than the one ahead of it.
func steps(n int) [][]int {
	if n == 0 {
		return [][]int{nil}
	}
	var all [][]int
	for _, s := range steps(n - 1) {
		last := 0
		if len(s) > 0 {
			last = s[len(s)-1]
		}
		for d := 1; d <= last+1; d++ {
			all = append(all, append(slices.Clone(s), d))
		}
	}
	return all
}

// forest has the terms whose nodes are of these kinds, and stand so deep.
func forest(depths []int, kinds []uint8) []api.Term {
	var l []api.Term
	for i := 0; i < len(depths); {
		end := i + 1
		for end < len(depths) && depths[end] > depths[i] {
			end++
		}
		l = append(l, of(api.Head{Kind: kinds[i]}, forest(depths[i+1:end], kinds[i+1:end])...))
		i = end
	}
	return l
}

func TestNodesOfAllSmallForests(t *testing.T) {
	kinds := []uint8{9, 0, 1, 255, 17, 3, 200, 16}
	for n := range 8 {
		for _, s := range steps(n) {
			l := forest(s, kinds)
			if got := term.Size(l...); got != n {
				t.Errorf("P4.1: Size of %v = %d", s, got)
			}
			if got := term.Depth(l...); got != slices.Max(append(s, 0)) {
				t.Errorf("P4.1: Depth of %v = %d", s, got)
			}
			if got := term.Kinds(l...); !slices.Equal(got, kinds[:n]) {
				t.Errorf("P4.1: Kinds of %v = %v", s, got)
			}
			for k := range 256 {
				if got, want := term.Has(uint8(k), l...), slices.Contains(kinds[:n], uint8(k)); got != want {
					t.Errorf("P4.1: Has of %d in %v = %t", k, s, got)
				}
			}
		}
	}
}

func TestNoneOneAndSeveral(t *testing.T) {
	for _, l := range [][]api.Term{nil, {}} {
		if term.Size(l...) != 0 || term.Depth(l...) != 0 || len(term.Kinds(l...)) != 0 || term.Has(0, l...) || term.Has(1, l...) {
			t.Error("P4.1, P0.5: of no terms")
		}
	}
	if term.Size(api.Term{}) != 1 || term.Depth(api.Term{}) != 1 || !slices.Equal(term.Kinds(api.Term{}), []uint8{0}) || !term.Has(0, api.Term{}) || term.Has(1, api.Term{}) || term.May(api.Term{}) {
		t.Error("P4.1: of the zero term")
	}
	fn := of(api.Head{Kind: 11, Arg: "x"}, of(api.Head{Kind: 2, Name: "x"}))
	if term.Size(fn) != 2 || term.Depth(fn) != 2 || !slices.Equal(term.Kinds(fn), []uint8{11, 2}) {
		t.Error("P4.1: of fn x => x")
	}
	if term.Size(fn, num(1), fn) != 5 || term.Depth(num(1), fn, num(2)) != 2 || !slices.Equal(term.Kinds(fn, num(1), fn), []uint8{11, 2, 1, 11, 2}) || !term.Has(2, num(1), fn) || !term.Has(1, fn, num(1)) || term.Has(3, fn, num(1)) {
		t.Error("P4.1: of several")
	}
	want := []uint8{13, 14, 9, 2, 1, 4, 3, 1, 2, 5, 2, 9, 12, 11, 2, 10, 2, 16, 15, 7, 6, 1, 8, 2, 1, 9, 1, 1}
	if got := term.Kinds(whole()); !slices.Equal(got, want) || term.Size(whole()) != 28 || term.Depth(whole()) != 9 {
		t.Error("P4.1: of the whole", got, term.Size(whole()), term.Depth(whole()))
	}
	for _, r := range table {
		if !term.Has(r.kind, whole()) || !term.Has(r.kind, num(1), plain(r)) || term.Has(r.kind) {
			t.Error("P4.1: Has", r.kind)
		}
	}
}

// textOf is what the chapter says of a term, but for places, as a text.
func textOf(t api.Term) string {
	s := fmt.Sprintf("[%d %d %d %q %q %q", t.Kind, t.Op, t.N, t.Name, t.Arg, t.Exn)
	for _, k := range t.Kids {
		s += textOf(k)
	}
	return s + "]"
}

// others are terms that differ from t in one thing each.
func others(t api.Term) []api.Term {
	l := slices.Repeat([]api.Term{t}, 9)
	l[0].Kind ^= 1
	l[1].Op++
	l[2].N++
	l[3].N ^= 1 << 40
	l[4].Name += "x"
	l[5].Arg += "x"
	l[6].Exn += "x"
	l[7].Kids = append(slices.Clone(t.Kids), api.Term{})
	l[8].Kids = append([]api.Term{{}}, t.Kids...)
	if n := len(t.Kids); n > 0 {
		less, more := t, t
		less.Kids, more.Kids = t.Kids[:n-1], append(slices.Clone(t.Kids), t.Kids[n-1])
		turned := t
		turned.Kids = slices.Clone(t.Kids)
		slices.Reverse(turned.Kids)
		l = append(l, less, more, turned)
	}
	return l
}

func TestSameOfEachPair(t *testing.T) {
	l := []api.Term{{}, num(0), num(1), whole(), of(api.Head{Kind: 1, Name: "x"}), of(api.Head{Kind: 1, Arg: "x"}), of(api.Head{Kind: 1, Exn: "x"})}
	for _, r := range table {
		l = append(l, plain(r), plain(r, nums(r.kids)...), plain(r, num(1), num(0)), plain(r, plain(r, num(1)), num(2)), plain(r, plain(r, num(1), num(2))))
	}
	for n := range 6 {
		for _, s := range steps(n) {
			l = append(l, plain(table[2], forest(s, []uint8{3, 3, 3, 3, 3})...))
		}
	}
	l = append(l, others(whole())...)
	l = append(l, others(plain(table[12], num(1), num(2)))...)
	var texts []string
	for _, x := range l {
		texts = append(texts, textOf(x))
	}
	for i, a := range l {
		for j, b := range l {
			if got, want := term.Same(a, b), texts[i] == texts[j]; got != want {
				t.Errorf("P4.1: Same of %s and %s = %t", texts[i], texts[j], got)
			}
		}
	}
}

func TestSameButForPlaces(t *testing.T) {
	a := whole()
	for at := range term.Size(a) {
		for _, place := range []int{0, 1, -1, 77, math.MaxInt, math.MinInt} {
			x := clone(whole())
			node(&x, at).At = place
			if !term.Same(a, x) || !term.Same(x, a) {
				t.Errorf("P4.1: not the same, but for the place %d of the node %d", place, at)
			}
		}
		for i, other := range others(*node(&a, at)) {
			x := clone(a)
			*node(&x, at) = other
			// Kids that are the same, turned round, change nothing.
			if want := textOf(x) == textOf(a); term.Same(a, x) != want || term.Same(x, a) != want {
				t.Errorf("P4.1: Same isn't %t with the node %d as its other one %d", want, at, i)
			}
		}
	}
}

func TestNilAndEmptyKids(t *testing.T) {
	none, empty := num(1), of(num(1).Head, []api.Term{}...)
	empty.Kids = []api.Term{}
	if !term.Same(none, empty) || !term.Same(empty, none) || !term.May(empty) || !term.May(none) || term.Size(none, empty) != 2 || term.Depth(empty) != 1 {
		t.Error("P0.5: nil kids and empty ones")
	}
	for _, r := range table[2:] {
		bare, hollow := plain(r), plain(r)
		bare.Kids, hollow.Kids = nil, []api.Term{}
		if term.May(bare) || term.May(hollow) || !term.Same(bare, hollow) || term.Depth(bare) != 1 || term.Depth(hollow) != 1 {
			t.Errorf("P4.1, P0.5: kind %d with no kids", r.kind)
		}
	}
}

func TestArgumentsStay(t *testing.T) {
	room := []api.Term{num(1), whole(), num(2), num(3)}
	before := []api.Term{num(1), clone(whole()), num(2), num(3)}
	pair := plain(table[2], room[:2]...) // with room behind its kids' end
	for range 2 {                        // what was asked ahead counts for nothing
		if !term.May(pair) || !term.Same(pair, pair) || term.Size(room[:1]...) != 1 || term.Depth(room[:1]...) != 1 || !slices.Equal(term.Kinds(room[:1]...), []uint8{1}) || term.Has(13, room[:1]...) {
			t.Error("P0.4: what stands behind the list's end counts")
		}
		term.Size(room...)
		term.Depth(room...)
		term.Kinds(room...)
		term.Has(18, room...)
		if !reflect.DeepEqual(room, before) {
			t.Fatal("P0.4: what was handed in is changed")
		}
	}
	room[0] = api.Term{}
	if term.May(pair) || term.Kinds(pair)[1] != 0 {
		t.Error("P0.4, P0.6: what was handed in is kept")
	}
}

func TestKindsAreNewMemory(t *testing.T) {
	first, second := term.Kinds(whole()), term.Kinds(whole())
	want := slices.Clone(first)
	for i := range first {
		first[i] = 99
	}
	if !slices.Equal(second, want) || !slices.Equal(term.Kinds(whole()), want) || !term.May(whole()) {
		t.Error("P0.4: two answers share memory")
	}
}
