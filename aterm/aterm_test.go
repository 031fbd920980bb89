package aterm_test

import (
	"math"
	"math/rand"
	"reflect"
	"slices"
	"strings"
	"testing"

	"enclave/api"
	"enclave/aterm"
	"enclave/effect"
	"enclave/rtype"
	"enclave/show"
	"enclave/term"
)

func get(n int) api.Atom { return api.Atom{Kind: 1, Rho: n} }

func put(n int) api.Atom { return api.Atom{Kind: 2, Rho: n} }

func exn(s string) api.Atom { return api.Atom{Kind: 3, Exn: s} }

func intType() api.RType { return api.RType{Kind: 1} }

func refType(rho int) api.RType {
	return api.RType{Kind: 3, Rho: rho, Kids: []api.RType{intType()}}
}

// fnType is a type of functions that has all that types have.
func fnType() api.RType {
	return api.RType{Kind: 4, Rho: 2, Eff: []api.Atom{get(1), put(2), exn("E")}, Kids: []api.RType{{Kind: 2, Rho: 1, Kids: []api.RType{refType(0), intType()}}, refType(5)}}
}

// of is a term of a kind, with kids.
func of(kind uint8, kids ...api.ATerm) api.ATerm {
	return api.ATerm{Head: api.Head{Kind: kind}, Kids: kids}
}

func num(n int64) api.ATerm { return api.ATerm{Head: api.Head{Kind: 1, N: n}} }

func nums(n int) []api.ATerm {
	var l []api.ATerm
	for i := range n {
		l = append(l, num(int64(i)))
	}
	return l
}

// region binds a region around a term.
func region(rho int, kids ...api.ATerm) api.ATerm {
	t := of(17, kids...)
	t.Rho = rho
	return t
}

// rec is a recursive function that is told regions.
func rec(a, b api.ATerm, rhos ...int) api.ATerm {
	return api.ATerm{Head: api.Head{Kind: 13, Name: "f", Arg: "x"}, Rhos: rhos, Type: intType(), Res: intType(), Kids: []api.ATerm{a, b}}
}

// at is a term at another place.
func at(place int, t api.ATerm) api.ATerm {
	t.At = place
	return t
}

// fill puts something ordinary, that isn't zero, into a field.
func fill(t *api.ATerm, field string) {
	switch field {
	case "N":
		t.N = 5
	case "Op":
		t.Op = 2
	case "Name":
		t.Name = "x"
	case "Arg":
		t.Arg = "y1"
	case "Exn":
		t.Exn = "E"
	case "Rho":
		t.Rho = 3
	case "Rhos":
		t.Rhos = []int{4, 1}
	case "Eff":
		t.Eff = []api.Atom{get(0), put(4), exn("E")}
	case "Type":
		t.Type = fnType()
	case "Res":
		t.Res = refType(1)
	}
}

// plain is a term of a row that may be, if its kids may.
func plain(r kindRow, kids ...api.ATerm) api.ATerm {
	t := of(r.kind, kids...)
	for _, f := range r.fields {
		fill(&t, f)
	}
	return t
}

// full is plain, with just as many kids as it is to have.
func full(r kindRow) api.ATerm { return plain(r, nums(r.kids)...) }

// big is a term that may be and has each kind, some of them one in the other, and each field.
func big() api.ATerm {
	x, f := at(3, api.ATerm{Head: api.Head{Kind: 2, Name: "x"}}), api.ATerm{Head: api.Head{Kind: 18, Name: "f", At: 44}, Rho: 2, Rhos: []int{0, 2, 0}, Eff: []api.Atom{get(2), put(0)}}
	less := api.ATerm{Head: api.Head{Kind: 9, Op: 4, At: 20}, Kids: []api.ATerm{x, num(1)}}
	pair := api.ATerm{Head: api.Head{Kind: 3, At: 33}, Rho: 7, Kids: []api.ATerm{num(0), x}}
	cond := of(14, less, region(7, of(4, pair)), of(5, x))
	ref := api.ATerm{Head: api.Head{Kind: 6, At: 55}, Rho: 6, Kids: []api.ATerm{num(math.MaxInt32)}}
	raise := api.ATerm{Head: api.Head{Kind: 15, Exn: "E2"}, Type: fnType(), Kids: []api.ATerm{region(6, of(7, ref))}}
	tries := api.ATerm{Head: api.Head{Kind: 16, Exn: "E", Arg: "y"}, Kids: []api.ATerm{raise, of(8, f, num(3))}}
	fn := api.ATerm{Head: api.Head{Kind: 11, Arg: "z", At: 60}, Rho: 3, Eff: []api.Atom{exn("A"), exn("B")}, Type: refType(2), Kids: []api.ATerm{region(9, region(8, x))}}
	lets := api.ATerm{Head: api.Head{Kind: 12, Name: "g"}, Kids: []api.ATerm{fn, of(10, f, tries)}}
	recs := api.ATerm{Head: api.Head{Kind: 13, Name: "f", Arg: "x"}, Rho: 4, Rhos: []int{5, 2, math.MaxInt}, Eff: []api.Atom{get(5)}, Type: intType(), Res: refType(2), Kids: []api.ATerm{cond, lets}}
	return region(3, region(4, recs))
}

// mixed is a term that may not be, with what could be taken for something in all fields, and kids where none are to be.
func mixed() api.ATerm {
	odd := []api.Atom{exn("B"), put(1), get(2), put(1), get(-1), {Kind: 3, Rho: 1, Exn: "C"}, {}, exn("b")}
	all := api.ATerm{Head: api.Head{Kind: 17, Op: 9, At: -3, N: -1, Name: "in", Arg: "E", Exn: "x"}, Rho: -2, Rhos: []int{3, -1, 3}, Eff: odd, Type: api.RType{Rho: -1, Eff: odd, Kids: []api.RType{{Kind: 9}}}, Res: api.RType{Kind: 5, Kids: []api.RType{intType()}}}
	within := all
	for kind := range 20 {
		t := all
		t.Kind, t.At, t.Kids = uint8(kind), -kind, slices.Repeat([]api.ATerm{all}, kind%4)
		t.Kids = slices.Insert(t.Kids, kind%4*(1-kind%2), within) // the first one of a region, which is odd
		within = t
	}
	return within
}

// node is the node of t that has left others ahead of it; nil, if there are too few.
func node(t *api.ATerm, left int) *api.ATerm {
	for row := []*api.ATerm{t}; len(row) > 0; left-- {
		t, row = row[0], row[1:]
		if left == 0 {
			return t
		}
		for i := range t.Kids {
			row = slices.Insert(row, i, &t.Kids[i])
		}
	}
	return nil
}

// holds holds all that is told of a term against the chapter. It stops at the first fault: where many terms are gone through, more of them tell nothing new.
func holds(t *testing.T, x api.ATerm) {
	t.Helper()
	may := mayOf(x)
	if got := aterm.May(x); got != may {
		t.Fatalf("P13.1: May of %.400s = %t", exactly(x), got)
	}
	if got, want := aterm.Size(x), len(nodes(x)); got != want {
		t.Fatalf("P13.1: Size of %.400s = %d, want %d", exactly(x), got, want)
	}
	if got, want := aterm.Binds(x), bindsOf(x); !slices.Equal(got, want) {
		t.Fatalf("P13.1: Binds of %.400s = %v, want %v", exactly(x), got, want)
	}
	place, apart := aterm.Apart(x)
	if wantPlace, want := apartOf(x); place != wantPlace || apart != want {
		t.Fatalf("P13.1: Apart of %.400s = %d %t, want %d %t", exactly(x), place, apart, wantPlace, want)
	}
	erased := aterm.Erase(x)
	if got, want := plainly(erased), plainly(eraseOf(x)); got != want {
		t.Fatalf("P13.1: Erase of %.400s = %.400s, want %.400s", exactly(x), got, want)
	}
	if y := clone(x); !aterm.Same(x, x) || !aterm.Same(x, y) || !aterm.Same(y, x) {
		t.Fatalf("P13.1: not the same as itself: %.400s", exactly(x))
	}
	if may && !term.May(erased) && term.Size(erased) <= api.MaxNodes {
		t.Fatalf("P13.1: Erase of %.400s is no term that may be", exactly(x))
	}
}

// TestChapter has what the chapters tell of kinds, told once more by hand.
func TestChapter(t *testing.T) {
	row := func(name string, kind uint8, kids int, fields string) kindRow {
		return kindRow{name: name, kind: kind, kids: kids, fields: strings.Fields(fields)}
	}
	want := []kindRow{
		row("KNum", 1, 0, "N"), row("KVar", 2, 0, "Name"), row("KPair", 3, 2, "Rho"), row("KFst", 4, 1, ""), row("KSnd", 5, 1, ""), row("KRef", 6, 1, "Rho"),
		row("KGet", 7, 1, ""), row("KSet", 8, 2, ""), row("KOp", 9, 2, "Op"), row("KApp", 10, 2, ""), row("KFn", 11, 1, "Arg Rho Eff Type"), row("KLet", 12, 2, "Name"),
		row("KLetrec", 13, 2, "Name Arg Rho Rhos Eff Type Res"), row("KIf", 14, 3, ""), row("KRaise", 15, 1, "Exn Type"), row("KTry", 16, 2, "Exn Arg"),
		row("KRegion", 17, 1, "Rho"), row("KInst", 18, 0, "Name Rho Rhos Eff"),
	}
	if len(kindRows) != len(want) {
		t.Fatal("the chapters are read as", kindRows)
	}
	for i, r := range kindRows {
		if r.name != want[i].name || r.kind != want[i].kind || r.kids != want[i].kids || !slices.Equal(r.fields, want[i].fields) {
			t.Error("the chapters are read as", r)
		}
		if (r.leastRho == 1) != (r.name == "KRegion") || (r.leastRhos == 1) != (r.name == "KLetrec") || r.once != (r.name == "KLetrec") {
			t.Error("which regions may be is read as", r)
		}
		if r.bindsRho != (r.name == "KRegion") || r.bindsRhos != (r.name == "KLetrec") {
			t.Error("which regions are bound is read as", r)
		}
	}
	if most != 40000 || api.MaxATerm != 40000 || api.KRegion != 17 || api.KInst != 18 {
		t.Error("numbers", most, api.MaxATerm, api.KRegion, api.KInst)
	}
}

func TestExample(t *testing.T) {
	pair := api.ATerm{Head: api.Head{Kind: api.KPair}, Rho: 1, Kids: []api.ATerm{num(2), num(3)}}
	x := region(1, of(api.KFst, pair))
	if s, e := show.Term(aterm.Erase(x)); s != "fst ( 2 , 3 )" || e != api.OK {
		t.Errorf("P13.1: Erase = %q %d", s, e)
	}
	if !aterm.May(x) || aterm.Size(x) != 5 || !slices.Equal(aterm.Binds(x), []int{1}) {
		t.Error("P13.1: of the example")
	}
}

// TestReadme has what README.md shows of this layer.
func TestReadme(t *testing.T) {
	two := api.ATerm{Head: api.Head{Kind: api.KNum, N: 2, At: 6}}
	three := api.ATerm{Head: api.Head{Kind: api.KNum, N: 3, At: 10}}
	pair := api.ATerm{Head: api.Head{Kind: api.KPair, At: 4}, Rho: 1, Kids: []api.ATerm{two, three}}
	fst := api.ATerm{Head: api.Head{Kind: api.KFst}, Kids: []api.ATerm{pair}}
	r := api.ATerm{Head: api.Head{Kind: api.KRegion}, Rho: 1, Kids: []api.ATerm{fst}}
	if !aterm.May(r) || aterm.Size(r, two) != 6 {
		t.Error("P13.1: May and Size")
	}
	if s, e := show.Term(aterm.Erase(r)); s != "fst ( 2 , 3 )" || e != api.OK {
		t.Errorf("P13.1: Erase = %q %d", s, e)
	}
	if l := aterm.Binds(r, pair, r); !slices.Equal(l, []int{1, 1}) {
		t.Error("P13.1: Binds", l)
	}
	if place, apart := aterm.Apart(r); place != 0 || !apart {
		t.Error("P13.1: Apart", place, apart)
	}
	twice := api.ATerm{Head: api.Head{Kind: api.KPair}, Kids: []api.ATerm{r, {Head: api.Head{Kind: api.KRegion, At: 9}, Rho: 1, Kids: []api.ATerm{two}}}}
	if place, apart := aterm.Apart(twice); place != 9 || apart {
		t.Error("P13.1: Apart", place, apart)
	}
	if aterm.Same(r, fst) || aterm.May(api.ATerm{Head: api.Head{Kind: api.KRegion}, Kids: []api.ATerm{fst}}) {
		t.Error("P13.1: Same and May")
	}
}

// TestEachKindFieldsAndKids has all kinds, those that aren't there too, with each set of fields and each number of kids.
func TestEachKindFieldsAndKids(t *testing.T) {
	for kind := range 256 {
		r, is := rowOf(uint8(kind))
		for set := range 1 << len(fields) {
			if kind > 20 && kind < 255 && set != 0 && set != 1<<len(fields)-1 { // they are all alike
				continue
			}
			x, want := of(uint8(kind)), is
			for i, f := range fields {
				if set>>i&1 == 1 {
					fill(&x, f.name)
					want = want && r.has(f.name)
				} else if f.name != "N" && f.name != "Rhos" && f.name != "Eff" && (f.name != "Rho" || kind == 17) { // those may be zero, or none
					want = want && !r.has(f.name)
				}
			}
			for kids := range 6 {
				x.Kids = nums(kids)
				if got := aterm.May(x); got != (want && kids == r.kids) || got != mayOf(x) {
					t.Fatalf("P13.1: May of %s = %t", exactly(x), got)
				}
			}
		}
	}
}

// edges are values of fields, such as may be and such as may not, by kind: what they may be asks fields.
func edges(field string) []func(x *api.ATerm) {
	var l []func(x *api.ATerm)
	switch field {
	case "N":
		for _, n := range []int64{0, 1, math.MaxInt32, math.MaxInt32 + 1, 1 << 32, math.MaxInt64, -1, math.MinInt32, math.MinInt64} {
			l = append(l, func(x *api.ATerm) { x.N = n })
		}
	case "Op":
		for op := range 256 {
			l = append(l, func(x *api.ATerm) { x.Op = uint8(op) })
		}
	case "Name", "Arg", "Exn":
		for _, s := range []string{"", "x", "aB0", "abcdefghijklmnop", "abcdefghijklmnopq", "int", "in", "letrec", "region", "E", "Ab0", "ABCDEFGHIJKLMNOP", "ABCDEFGHIJKLMNOPQ", "0", "_", " ", "x ", "E ", "x\x00", "é", "\xff"} {
			l = append(l, func(x *api.ATerm) {
				*map[string]*string{"Name": &x.Name, "Arg": &x.Arg, "Exn": &x.Exn}[field] = s
			})
		}
	case "Rho":
		for _, rho := range []int{0, 1, 2, 255, 256, math.MaxInt32 + 1, math.MaxInt, -1, -2, math.MinInt} {
			l = append(l, func(x *api.ATerm) { x.Rho = rho })
		}
	case "Rhos":
		for _, rhos := range rhoLists() {
			l = append(l, func(x *api.ATerm) { x.Rhos = rhos })
		}
	case "Eff":
		for _, e := range effects() {
			l = append(l, func(x *api.ATerm) { x.Eff = e })
		}
	case "Type", "Res":
		for _, y := range rtypes() {
			l = append(l, func(x *api.ATerm) {
				*map[string]*api.RType{"Type": &x.Type, "Res": &x.Res}[field] = y
			})
		}
	}
	return l
}

// rhoLists, effects and rtypes are such as may be, and such as may not.
func rhoLists() [][]int {
	l := [][]int{nil, {}, {math.MaxInt}, {math.MaxInt, 1}, {-1}, {math.MinInt}, {1, 2, 3, 4, 5, 6, 7, 8, 9, 10}, {10, 9, 8, 7, 6, 5, 4, 3, 2, 10}, {1, 2, 3, 4, 0}, {5, 4, 3, -2}, {9, 8, 9, -1}}
	for a := range 4 {
		for b := range 4 {
			for c := range 4 {
				l = append(l, []int{a - 1, b, c}, []int{c, a - 1}, []int{b, c - 1, a})
			}
		}
		l = append(l, []int{a})
	}
	return l
}

func effects() [][]api.Atom {
	return [][]api.Atom{
		nil, {}, {get(0)}, {put(4)}, {exn("E")}, {get(0), get(3), put(0), exn("A"), exn("Aa")}, {get(math.MaxInt)},
		{{}}, {get(-1)}, {put(1), get(1)}, {get(1), get(1)}, {exn("e")}, {{Kind: 3, Rho: 1, Exn: "E"}}, {{Kind: 1, Rho: 1, Exn: "E"}}, {get(1), put(2), exn("B"), exn("A")}, {get(0), {Kind: 4}},
	}
}

func rtypes() []api.RType {
	i := intType()
	return []api.RType{
		i, refType(0), refType(9), fnType(), {Kind: 2, Kids: []api.RType{fnType(), i}},
		{}, {Rho: 1}, {Rho: -1}, {Eff: []api.Atom{}}, {Kids: []api.RType{}}, {Eff: []api.Atom{{}}}, {Eff: []api.Atom{get(0)}}, {Kids: []api.RType{{}}}, {Kids: []api.RType{i}},
		{Kind: 5}, {Kind: 6}, {Kind: 255}, {Kind: 1, Rho: 1}, {Kind: 1, Eff: []api.Atom{get(0)}}, refType(-1), {Kind: 3}, {Kind: 3, Kids: []api.RType{{}}}, {Kind: 4, Eff: []api.Atom{put(0), get(0)}, Kids: []api.RType{i, i}}, {Kind: 2, Kids: []api.RType{i, {Kind: 5}}},
	}
}

// TestEdges has the edges of each field of each kind, where it is to be and where it isn't, alone and with another field's.
func TestEdges(t *testing.T) {
	for kind := range uint8(20) {
		r, is := rowOf(kind)
		x := of(kind)
		if is {
			x = full(r)
		}
		for _, f := range fields {
			for _, edge := range edges(f.name) {
				y := clone(x)
				edge(&y)
				want := is && (r.has(f.name) && f.may(r, y) || !r.has(f.name) && f.zero(y))
				if got := aterm.May(y); got != want {
					t.Fatalf("P13.1: May of %s = %t", exactly(y), got)
				}
				holds(t, y)
				holds(t, of(4, y))
				holds(t, rec(num(1), of(10, y, num(1)), 1, 2))
			}
		}
	}
}

// TestRegions has the regions that each kind may have, told by hand.
func TestRegions(t *testing.T) {
	for _, x := range []struct {
		t   api.ATerm
		may bool
	}{
		{region(1, num(1)), true}, {region(math.MaxInt, num(1)), true}, {region(0, num(1)), false}, {region(-1, num(1)), false},
		{rec(num(1), num(1)), true}, {rec(num(1), num(1), 1), true}, {rec(num(1), num(1), 3, 1, 2), true}, {rec(num(1), num(1), 0), false}, {rec(num(1), num(1), 1, 0), false}, {rec(num(1), num(1), 1, -1), false}, {rec(num(1), num(1), 2, 2), false}, {rec(num(1), num(1), 2, 1, 3, 1), false},
		{api.ATerm{Head: api.Head{Kind: 18, Name: "f"}}, true}, {api.ATerm{Head: api.Head{Kind: 18, Name: "f"}, Rhos: []int{0, 0, 3, 3}}, true}, {api.ATerm{Head: api.Head{Kind: 18, Name: "f"}, Rhos: []int{0, -1}}, false}, {api.ATerm{Head: api.Head{Kind: 18, Name: "f"}, Rho: -1}, false},
		// A region may be bound twice in what may be, and a function given one that it binds itself: layer 15 looks at that.
		{region(1, region(1, num(1))), true}, {rec(region(1, num(1)), rec(num(1), num(1), 1), 1), true}, {rec(api.ATerm{Head: api.Head{Kind: 18, Name: "g"}, Rho: 9, Rhos: []int{1}}, num(1), 1), true},
	} {
		if got := aterm.May(x.t); got != x.may {
			t.Errorf("P13.1: May of %s = %t", exactly(x.t), got)
		}
		holds(t, x.t)
	}
	for _, kind := range []uint8{3, 6, 11, 13, 18} {
		r, _ := rowOf(kind)
		x := full(r)
		x.Rho = 0
		if !aterm.May(x) {
			t.Error("P13.1: it may not be with the region 0:", r.name)
		}
	}
}

func TestPlaces(t *testing.T) {
	for _, r := range kindRows {
		for _, place := range []int{0, 1, 65536, math.MaxInt, -1, -2, math.MinInt32, math.MinInt} {
			if x := at(place, full(r)); aterm.May(x) != (place >= 0) || aterm.May(of(8, num(1), x)) != (place >= 0) {
				t.Errorf("P13.1: May of %s at %d isn't %t", r.name, place, place >= 0)
			}
		}
	}
}

// chain has just so many nodes, each with kids of a row, the next of them standing in the kid at a place, and each a region of its own, where it has some; where the kids are too many for the rest, snd stands in their stead.
func chain(r kindRow, place, nodes int) api.ATerm {
	t := num(1)
	rest := nodes - 1
	for ; rest%r.kids != 0; rest-- {
		t = of(5, t)
	}
	for ; rest > 0; rest -= r.kids {
		kids := nums(r.kids)
		kids[place] = t
		t = plain(r, kids...)
		if r.has("Rho") {
			t.Rho = rest
		}
		if r.has("Rhos") {
			t.Rhos = []int{rest}
		}
	}
	return t
}

// broad has just so many nodes, and as few of them in one another as it can.
func broad(nodes int) api.ATerm {
	switch {
	case nodes == 1:
		return num(1)
	case nodes == 2:
		return of(5, num(1))
	case nodes == 3:
		return of(8, nums(2)...)
	}
	rest := nodes - 1
	return of(14, broad(rest/3), broad((rest+1)/3), broad((rest+2)/3))
}

func TestMostNodes(t *testing.T) {
	for _, n := range []int{1, 2, 3, 4, 4001, 40000, 40001} {
		try := func(x api.ATerm) {
			t.Helper()
			if got := aterm.Size(x); got != n {
				t.Fatalf("P13.1: Size of %d nodes = %d", n, got)
			}
			if got, want := aterm.May(x), n <= 40000; got != want {
				t.Errorf("P13.1: May of %d nodes = %t", n, got)
			}
			last := &x
			for len(last.Kids) > 0 {
				last = &last.Kids[len(last.Kids)-1]
			}
			if last.Rho = 1; aterm.May(x) {
				t.Errorf("P13.1: it may be with the last one of %d nodes spoilt", n)
			}
		}
		try(broad(n))
		for _, r := range kindRows {
			for place := range r.kids {
				try(chain(r, place, n))
			}
		}
	}
}

func TestTooManyNodes(t *testing.T) {
	many := nums(1 << 17)
	for _, n := range []int{3, 4, 3998, 3999, 4000, 4001, 39998, 39999, 40000, 1 << 17} {
		for _, r := range kindRows {
			if x := plain(r, many[:n]...); aterm.May(x) != (n == r.kids) {
				t.Errorf("P13.1: May of %s of %d kids = %t", r.name, n, aterm.May(x))
			}
		}
	}
	tower := num(1)
	for range 20 { // both kids are the same memory
		tower = of(8, tower, tower)
	}
	if aterm.May(tower) || aterm.Size(tower) != 1<<21-1 {
		t.Error("P13.1: of 2^21 - 1 nodes")
	}
	ring := make([]api.ATerm, 1)
	ring[0] = of(4, ring...)
	if aterm.May(ring[0]) {
		t.Error("P0.1, P13.1: what stands in itself has too many nodes")
	}
}

// spoils may make a node another one, mostly such as may not be.
func spoils() []func(x *api.ATerm) {
	l := []func(x *api.ATerm){
		func(x *api.ATerm) { x.Kind = 0 },
		func(x *api.ATerm) { x.Kind = 19 },
		func(x *api.ATerm) { x.Kind = 255 },
		func(x *api.ATerm) { x.Kind += 128 },
		func(x *api.ATerm) { x.Kind++ },
		func(x *api.ATerm) { x.Kind = 17 },
		func(x *api.ATerm) { x.Kind = 18 },
		func(x *api.ATerm) { x.At = -1 },
		func(x *api.ATerm) { x.At++ },
		func(x *api.ATerm) { x.Kids = append(slices.Clone(x.Kids), num(1)) },
		func(x *api.ATerm) { x.Kids = append([]api.ATerm{region(3, num(1))}, x.Kids...) },
		func(x *api.ATerm) { *x = api.ATerm{} },
		func(x *api.ATerm) { *x = region(0, num(1)) },
		func(x *api.ATerm) { *x = region(5, num(1)) },
		func(x *api.ATerm) { *x = rec(num(1), num(2), 6, 9) },
		func(x *api.ATerm) { *x = rec(num(1), num(2), 6, 6) },
	}
	for _, f := range fields { // some of the edges: TestEdges has all of them
		e := edges(f.name)
		for i := 0; i < len(e); i += 1 + len(e)/12 {
			l = append(l, e[i])
		}
	}
	return l
}

func TestWhatMayNotBeFarWithin(t *testing.T) {
	holds(t, big())
	holds(t, mixed())
	if !aterm.May(big()) || aterm.May(mixed()) {
		t.Error("P13.1: May of big ones")
	}
	own := whole(big())
	for at := range aterm.Size(big()) {
		for i, spoil := range spoils() {
			x := clone(big())
			spoil(node(&x, at))
			holds(t, x)
			// An atom that is none makes no other effect, and so no other term.
			if want := whole(x) == own; aterm.Same(x, big()) != want || aterm.Same(big(), x) != want {
				t.Fatalf("P13.1: Same isn't %t with the node %d spoilt by %d", want, at, i)
			}
		}
		x := clone(big())
		if n := node(&x, at); len(n.Kids) > 0 {
			n.Kids = n.Kids[1:]
			holds(t, x)
			if aterm.May(x) || aterm.Same(x, big()) {
				t.Errorf("P13.1: it may be with a kid of the node %d missing", at)
			}
		}
	}
	for _, r := range kindRows {
		for place := range r.kids {
			x := chain(r, place, 39999)
			inmost := &x
			for inmost.Kind == r.kind {
				inmost = &inmost.Kids[place]
			}
			inmost.Rhos = []int{1}
			if aterm.May(x) {
				t.Errorf("P13.1: it may be with its inmost node spoilt, in %s, kid %d", r.name, place)
			}
		}
	}
}

// steps are how deep each of n nodes may stand, told in order: the first one at 1, each at most one deeper than the one ahead of it.
func steps(n int) [][]int {
	if n == 0 {
		return [][]int{nil}
	}
	var all [][]int
	for _, s := range steps(n - 1) {
		last := 0
		if len(s) > 0 {
			last = s[len(s)-1]
		}
		for d := 1; d <= last+1; d++ {
			all = append(all, append(slices.Clone(s), d))
		}
	}
	return all
}

// forest has the terms whose nodes are these, and stand so deep; the place of each is its number, from 1 on.
func forest(depths []int, of []api.ATerm, first int) []api.ATerm {
	var l []api.ATerm
	for i := 0; i < len(depths); {
		end := i + 1
		for end < len(depths) && depths[end] > depths[i] {
			end++
		}
		t := at(first+i, of[i])
		t.Kids = forest(depths[i+1:end], of[i+1:end], first+i+1)
		l = append(l, t)
		i = end
	}
	return l
}

// binders are nodes that bind regions, and such as only look like it.
func binders() []api.ATerm {
	inst, fn, twice, zero, num := of(18), of(11), rec(num(1), num(1), 1, 1), region(0), of(1)
	inst.Rho, inst.Rhos = 2, []int{1, 2}
	fn.Rho, fn.Rhos, fn.Type = 1, []int{1}, refType(1)
	zero.Rhos = []int{1, 1}
	num.Rho, num.Rhos = 1, []int{2}
	two := rec(of(1), of(1), 2, 1)
	two.Rho = 1
	return []api.ATerm{region(1), region(2), two, inst, zero, rec(of(1), of(1)), twice, fn, num}
}

// holdForest holds what is told of several terms against the chapter.
func holdForest(t *testing.T, l ...api.ATerm) {
	t.Helper()
	if got, want := aterm.Size(l...), len(nodes(l...)); got != want {
		t.Fatalf("P13.1: Size of %.300s .. = %d, want %d", exactly(l[0]), got, want)
	}
	if got, want := aterm.Binds(l...), bindsOf(l...); !slices.Equal(got, want) {
		t.Fatalf("P13.1: Binds of %.300s .. = %v, want %v", exactly(l[0]), got, want)
	}
	for _, x := range l {
		holds(t, x)
	}
}

// TestAllSmallForests has terms of whatever shape, several side by side, of nodes that bind and such as don't.
func TestAllSmallForests(t *testing.T) {
	for n, kinds := range []int{0, 9, 9, 9, 6, 3} { // the more nodes, the fewer of them
		nodes := make([]api.ATerm, n)
		all := 1
		for range n {
			all *= kinds
		}
		for _, s := range steps(n) {
			for one := range all {
				for i := range nodes {
					nodes[i] = binders()[one%kinds]
					one /= kinds
				}
				holdForest(t, forest(s, nodes, 1)...)
			}
		}
	}
}

// TestBindsAndApart has what is bound where, told by hand.
func TestBindsAndApart(t *testing.T) {
	inst := api.ATerm{Head: api.Head{Kind: 18, Name: "f", At: 8}, Rho: 1, Rhos: []int{1, 2}}
	for _, x := range []struct {
		t     api.ATerm
		binds []int
		at    int
		apart bool
	}{
		{num(1), nil, 0, true}, {at(9, inst), nil, 0, true}, {at(9, of(8, inst, inst)), nil, 0, true},
		{at(9, region(1, inst)), []int{1}, 0, true}, {at(9, region(-7, num(1))), []int{-7}, 0, true}, {at(9, region(0)), []int{0}, 0, true},
		{at(9, region(1, at(5, region(1, num(1))))), []int{1, 1}, 5, false}, {at(-9, region(1, at(-5, region(1, num(1))))), []int{1, 1}, -5, false}, {region(1, region(1)), []int{1, 1}, 0, false},
		{at(9, rec(num(1), num(1), 3, 1, 2)), []int{3, 1, 2}, 0, true}, {at(9, rec(num(1), num(1), 3, 1, 3)), []int{3, 1, 3}, 9, false}, {at(9, rec(num(1), num(1), 3, 3, 3)), []int{3, 3, 3}, 9, false},
		{at(9, rec(at(4, region(3, num(1))), at(5, region(3, num(1))), 3, 1)), []int{3, 1, 3, 3}, 4, false},
		{at(9, rec(at(4, region(2, num(1))), at(5, region(2, num(1))), 3, 1)), []int{3, 1, 2, 2}, 5, false},
		{at(9, rec(at(4, region(2, at(6, region(4, num(1))))), at(5, region(4, at(7, region(2, num(1))))), 3, 1)), []int{3, 1, 2, 4, 4, 2}, 5, false},
		{of(8, at(4, rec(num(1), num(1), 1, 2)), at(5, rec(num(1), num(1), 3, 2))), []int{1, 2, 3, 2}, 5, false},
		{of(8, at(4, rec(num(1), num(1), 1, 2)), at(5, rec(num(1), num(1), 3, 4))), []int{1, 2, 3, 4}, 0, true},
		{of(14, at(4, region(1, num(1))), at(5, region(2, num(1))), at(6, region(1, num(1)))), []int{1, 2, 1}, 6, false},
		{of(14, at(4, region(1, num(1))), at(5, region(2, num(1))), at(6, region(3, num(1)))), []int{1, 2, 3}, 0, true},
		{of(0, of(200, at(4, region(1)), at(5, region(2))), at(6, region(2))), []int{1, 2, 2}, 6, false},
		{at(3, api.ATerm{Head: api.Head{Kind: 17}, Rho: 1, Rhos: []int{1, 2}, Kids: []api.ATerm{at(4, region(2))}}), []int{1, 2}, 0, true},
		{at(3, api.ATerm{Head: api.Head{Kind: 13}, Rho: 1, Rhos: []int{2}, Kids: []api.ATerm{at(4, region(1))}}), []int{2, 1}, 0, true},
		{at(3, api.ATerm{Head: api.Head{Kind: 11}, Rho: 1, Rhos: []int{2, 2}, Kids: []api.ATerm{at(4, region(1))}}), []int{1}, 0, true},
	} {
		if l := aterm.Binds(x.t); !slices.Equal(l, x.binds) {
			t.Errorf("P13.1: Binds of %s = %v", exactly(x.t), l)
		}
		if place, apart := aterm.Apart(x.t); place != x.at || apart != x.apart {
			t.Errorf("P13.1: Apart of %s = %d %t", exactly(x.t), place, apart)
		}
		holds(t, x.t)
	}
}

// TestErase has terms without regions, told by hand.
func TestErase(t *testing.T) {
	x := api.ATerm{Head: api.Head{Kind: 2, Name: "x", At: 4}}
	inst := api.ATerm{Head: api.Head{Kind: 18, Op: 1, At: 2, N: 3, Name: "f", Arg: "a", Exn: "E"}, Rho: 1, Rhos: []int{1}, Eff: []api.Atom{get(1)}, Type: intType(), Res: intType(), Kids: []api.ATerm{region(1, x), num(1)}}
	plainX := api.Term{Head: x.Head}
	for _, c := range []struct {
		t    api.ATerm
		want api.Term
	}{
		{x, plainX}, {region(1, x), plainX}, {at(9, region(1, region(2, region(3, x)))), plainX}, {region(0, x, num(7)), plainX}, {region(-1, region(1, x, num(7)), num(8)), plainX},
		{at(9, region(4)), api.Term{Head: api.Head{Kind: 17, At: 9}}}, {region(4, at(9, region(4))), api.Term{Head: api.Head{Kind: 17, At: 9}}}, {region(4, api.ATerm{}), api.Term{}},
		{inst, api.Term{Head: api.Head{Kind: 2, Op: 1, At: 2, N: 3, Name: "f", Arg: "a", Exn: "E"}, Kids: []api.Term{plainX, {Head: api.Head{Kind: 1, N: 1}}}}},
		{of(200, x, region(1), region(2, x)), api.Term{Head: api.Head{Kind: 200}, Kids: []api.Term{plainX, {Head: api.Head{Kind: 17}}, plainX}}},
		{rec(region(2, x), x, 1), api.Term{Head: api.Head{Kind: 13, Name: "f", Arg: "x"}, Kids: []api.Term{plainX, plainX}}},
	} {
		if got := aterm.Erase(c.t); plainly(got) != plainly(c.want) || !term.Same(got, c.want) {
			t.Errorf("P13.1: Erase of %s = %s", exactly(c.t), plainly(got))
		}
		holds(t, c.t)
	}
	if s, e := show.Term(aterm.Erase(big())); s != "letrec f x = if x < 1 then fst ( 0 , x ) else snd x in let g = fn z => x in f ( try raise E2 ! ref 2147483647 with E y => f := 3 )" || e != api.OK {
		t.Errorf("P13.1: Erase of the big one: %q %d", s, e)
	}
}

// others are terms that differ from t in one thing each.
func others(t api.ATerm) []api.ATerm {
	l := slices.Repeat([]api.ATerm{t}, 16)
	l[0].Kind ^= 1
	l[1].Op++
	l[2].N++
	l[3].N ^= 1 << 40
	l[4].Name += "x"
	l[5].Arg += "x"
	l[6].Exn += "x"
	l[7].At++
	l[8].Rho++
	l[9].Rhos = append(slices.Clone(t.Rhos), 0)
	l[10].Eff = append(slices.Clone(t.Eff), exn("Z"))
	l[11].Type.Kids = append(slices.Clone(t.Type.Kids), intType())
	l[12].Type.Rho++
	l[13].Res.Eff = append(slices.Clone(t.Res.Eff), put(77))
	l[14].Res.Kind++
	l[15].Kids = append(slices.Clone(t.Kids), api.ATerm{})
	if n := len(t.Rhos); n > 0 {
		turned, other := t, t
		turned.Rhos, other.Rhos = slices.Clone(t.Rhos), slices.Clone(t.Rhos)
		slices.Reverse(turned.Rhos)
		other.Rhos[n-1]++
		l = append(l, turned, other)
	}
	if n := len(t.Kids); n > 0 {
		less, more, turned := t, t, t
		less.Kids, more.Kids, turned.Kids = t.Kids[:n-1], append(slices.Clone(t.Kids), t.Kids[n-1]), slices.Clone(t.Kids)
		slices.Reverse(turned.Kids)
		l = append(l, less, more, turned)
	}
	return l
}

func TestSameOfEachPair(t *testing.T) {
	l := []api.ATerm{{}, num(0), num(1), big(), mixed(), region(1), region(2)}
	for _, r := range kindRows {
		l = append(l, plain(r), full(r), plain(r, num(1), num(0)), plain(r, plain(r, num(1)), num(2)), plain(r, plain(r, num(1), num(2))))
	}
	for kind := range uint8(2) {
		for _, f := range fields {
			for _, edge := range edges(f.name) {
				x := of(kind)
				edge(&x)
				l = append(l, x)
			}
		}
	}
	for _, x := range []api.ATerm{big(), full(kindRows[12]), full(kindRows[17])} {
		l = append(l, others(x)...)
	}
	var wholes []string
	for _, x := range l {
		wholes = append(wholes, whole(x))
	}
	for i, a := range l {
		for j, b := range l {
			if got, want := aterm.Same(a, b), wholes[i] == wholes[j]; got != want {
				t.Fatalf("P13.1: Same of %.300s and %.300s = %t", exactly(a), exactly(b), got)
			}
		}
	}
}

// TestSameFieldByField changes each node in each field, its place too.
func TestSameFieldByField(t *testing.T) {
	a := big()
	for at := range aterm.Size(a) {
		for i, other := range others(*node(&a, at)) {
			x := clone(a)
			*node(&x, at) = other
			// Kids or regions that are the same, turned round, change nothing.
			want := whole(x) == whole(a)
			if want && i < 16 {
				t.Fatal("the other one is the same")
			}
			if aterm.Same(a, x) != want || aterm.Same(x, a) != want {
				t.Errorf("P13.1: Same isn't %t with the node %d as its other one %d", want, at, i)
			}
		}
	}
	for _, e := range [][]api.Atom{{get(1), get(0), get(0)}, {get(0), {}, get(1), get(-3)}} {
		x, y := of(11), of(11)
		x.Eff, x.Type.Eff, x.Res.Eff = e, e, e
		y.Eff, y.Type.Eff, y.Res.Eff = effect.Of(e...), effect.Of(e...), effect.Of(e...)
		if !aterm.Same(x, y) || !aterm.Same(y, x) {
			t.Error("P13.1: effects of the same atoms are the same:", e)
		}
	}
}

func TestNoneOneAndSeveral(t *testing.T) {
	for _, l := range [][]api.ATerm{nil, {}} {
		if aterm.Size(l...) != 0 || len(aterm.Binds(l...)) != 0 {
			t.Error("P13.1, P0.5: of no terms")
		}
	}
	x, y := region(2, num(1)), rec(num(1), region(2, num(2)), 5, 3)
	for _, c := range []struct {
		l     []api.ATerm
		size  int
		binds []int
	}{
		{[]api.ATerm{x}, 2, []int{2}}, {[]api.ATerm{y}, 4, []int{5, 3, 2}}, {[]api.ATerm{x, y}, 6, []int{2, 5, 3, 2}}, {[]api.ATerm{y, x}, 6, []int{5, 3, 2, 2}}, {[]api.ATerm{x, x, num(1), x}, 7, []int{2, 2, 2}}, {[]api.ATerm{{}, y, {}, {Rhos: []int{4}}}, 7, []int{5, 3, 2}},
	} {
		if n, l := aterm.Size(c.l...), aterm.Binds(c.l...); n != c.size || !slices.Equal(l, c.binds) {
			t.Errorf("P13.1: Size = %d, Binds = %v", n, l)
		}
		holdForest(t, c.l...)
	}
}

func TestZero(t *testing.T) {
	var z api.ATerm
	place, apart := aterm.Apart(z)
	if aterm.May(z) || aterm.Size(z) != 1 || len(aterm.Binds(z)) != 0 || place != 0 || !apart || !reflect.DeepEqual(aterm.Erase(z), api.Term{}) || !aterm.Same(z, z) || aterm.Same(z, num(0)) {
		t.Error("P13.1: of the zero term")
	}
}

func TestNilAndEmptyLists(t *testing.T) {
	for kind := range uint8(20) {
		r, _ := rowOf(kind)
		none := plain(r)
		none.Kind, none.Rhos, none.Eff = kind, nil, nil
		for set := range 1 << 7 {
			empty := none
			for i, make := range []func(x *api.ATerm){
				func(x *api.ATerm) { x.Kids = []api.ATerm{} }, func(x *api.ATerm) { x.Rhos = []int{} }, func(x *api.ATerm) { x.Eff = []api.Atom{} },
				func(x *api.ATerm) { x.Type.Eff = []api.Atom{} }, func(x *api.ATerm) { x.Type.Kids = x.Type.Kids[:len(x.Type.Kids):len(x.Type.Kids)] },
				func(x *api.ATerm) { x.Res.Eff = x.Res.Eff[:0:0] }, func(x *api.ATerm) { x.Res.Kids = append([]api.RType{}, x.Res.Kids...) },
			} {
				if set>>i&1 == 1 {
					make(&empty)
				}
			}
			if aterm.May(empty) != mayOf(empty) || len(empty.Type.Eff) == len(none.Type.Eff) && (aterm.May(none) != aterm.May(empty) || !aterm.Same(none, empty) || !aterm.Same(empty, none)) {
				t.Fatalf("P0.5: with empty lists: %s", exactly(empty))
			}
			holds(t, empty)
		}
	}
}

// grown is a term with about so many nodes: such as may be, or such as may not.
func grown(r *rand.Rand, left int, odd bool) api.ATerm {
	row := kindRows[r.Intn(len(kindRows))]
	for left > 0 && row.kids == 0 {
		row = kindRows[r.Intn(len(kindRows))]
	}
	if left <= 0 {
		row = kindRows[[]int{0, 1, 17}[r.Intn(3)]]
	}
	t := plain(row)
	t.At = r.Intn(1000)
	if row.has("Rho") {
		t.Rho = 1 + r.Intn(40)
	}
	if row.has("Rhos") {
		t.Rhos = r.Perm(20)[:r.Intn(4)]
		for i := range t.Rhos {
			t.Rhos[i]++
		}
	}
	for range row.kids {
		t.Kids = append(t.Kids, grown(r, (left-1)/row.kids, odd))
	}
	if odd && r.Intn(12) == 0 {
		l := spoils()
		l[r.Intn(len(l))](&t)
	}
	return t
}

func TestGrown(t *testing.T) {
	r := rand.New(rand.NewSource(13))
	for n := range 3000 {
		a, b := grown(r, r.Intn(60), n%2 == 0), grown(r, r.Intn(20), n%3 == 0)
		holdForest(t, a, b)
		if n%6 == 1 && !aterm.May(a) {
			t.Fatalf("P13.1: it may not be: %s", exactly(a))
		}
		if aterm.Same(a, b) != (whole(a) == whole(b)) {
			t.Fatalf("P13.1: Same of %s and %s", exactly(a), exactly(b))
		}
		c := clone(a)
		l := spoils()
		l[r.Intn(len(l))](node(&c, r.Intn(aterm.Size(a))))
		if want := whole(a) == whole(c); aterm.Same(a, c) != want || aterm.Same(c, a) != want {
			t.Fatalf("P13.1: Same of %s and %s isn't %t", exactly(a), exactly(c), want)
		}
	}
}

// TestNestedDeep has as many terms nested as the document's limits allow.
func TestNestedDeep(t *testing.T) {
	const deep = 1<<16 - 1
	for _, c := range []struct {
		kind  uint8
		place int
	}{{4, 0}, {13, 0}, {13, 1}, {14, 2}, {17, 0}} {
		r, _ := rowOf(c.kind)
		size := r.kids*deep + 1
		x := chain(r, c.place, size)
		if aterm.May(x) || aterm.Size(x) != size || !aterm.Same(x, chain(r, c.place, size)) || aterm.Same(x, chain(r, c.place, size-r.kids)) || aterm.Same(x, x.Kids[c.place]) {
			t.Errorf("P13.1: %s nested in its kid %d", r.name, c.place)
		}
		if got, want := plainly(aterm.Erase(x)), plainly(eraseOf(x)); got != want {
			t.Errorf("P13.1: Erase of %s nested in its kid %d", r.name, c.place)
		}
		if !slices.Equal(aterm.Binds(x), bindsOf(x)) {
			t.Errorf("P13.1: Binds of %s nested in its kid %d", r.name, c.place)
		}
		if at, apart := aterm.Apart(x); at != 0 || !apart {
			t.Errorf("P13.1: Apart of %s nested in its kid %d: %d %t", r.name, c.place, at, apart)
		}
		inmost := &x
		for inmost.Kind == r.kind {
			inmost = &inmost.Kids[c.place]
		}
		*inmost = of(3, at(7, region(r.kids)), at(8, rec(num(1), num(2), r.kids, 1<<20))) // the outmost node's region
		want := map[uint8]int{4: 8, 13: 7, 14: 8, 17: 7}[r.kind]
		if at, apart := aterm.Apart(x); at != want || apart {
			t.Errorf("P13.1: Apart of %s nested in its kid %d: %d %t, want %d", r.name, c.place, at, apart, want)
		}
	}
	y := intType()
	for range deep {
		y = api.RType{Kind: 3, Kids: []api.RType{y}}
	}
	x := rec(num(1), num(2))
	x.Type, x.Res = y, y
	if !aterm.May(x) || !aterm.Same(x, x) || aterm.Same(x, rec(num(1), num(2))) {
		t.Error("P13.1: of types nested deep")
	}
}

func TestWide(t *testing.T) {
	l := slices.Repeat([]api.ATerm{num(1), region(3, num(2)), rec(num(1), num(2), 1, 2)}, 1<<14)
	if aterm.Size(l...) != 6<<14 || !slices.Equal(aterm.Binds(l...), slices.Repeat([]int{3, 1, 2}, 1<<14)) {
		t.Error("P13.1: of many terms")
	}
	for kind := range uint8(20) {
		x := of(kind, l...)
		if aterm.May(x) || aterm.Size(x) != 6<<14+1 || !aterm.Same(x, clone(x)) || aterm.Same(x, of(kind, l[3:]...)) || plainly(aterm.Erase(x)) != plainly(eraseOf(x)) {
			t.Error("P13.1: of many kids, of the kind", kind)
		}
	}
	var rhos []int
	for n := range 1 << 17 {
		rhos = append(rhos, 1<<17-n)
	}
	x := rec(num(1), at(5, region(9, num(1))), rhos...)
	if at, apart := aterm.Apart(x); at != 5 || apart || !aterm.May(x) || !slices.Equal(aterm.Binds(x), append(slices.Clone(rhos), 9)) {
		t.Error("P13.1: of many regions", at, apart)
	}
	x = at(4, rec(num(1), num(1), append(slices.Clone(rhos), 7)...))
	if at, apart := aterm.Apart(x); at != 4 || apart || aterm.May(x) {
		t.Error("P13.1: of many regions, one of them twice", at, apart)
	}
	x = api.ATerm{Head: api.Head{Kind: 18, Name: "f"}, Rhos: append(rhos, rhos...)}
	for n := range 1 << 16 {
		x.Eff = append(x.Eff, get(n))
	}
	if !aterm.May(x) || !aterm.Same(x, clone(x)) || rtype.May(x.Type) {
		t.Error("P13.1: of many regions that are given, and a great effect")
	}
}
