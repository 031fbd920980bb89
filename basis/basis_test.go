package basis_test

import (
	"math"
	"slices"
	"testing"

	"enclave/api"
	"enclave/basis"
)

// filled is a basis with so many regions and effect variables.
func filled(regions, vars int) *basis.Basis {
	b := basis.New()
	for range regions {
		b.Region()
	}
	for range vars {
		b.Var()
	}
	return b
}

// is holds whether a call answers true.
func is(t *testing.T, what string, got, want bool) {
	t.Helper()
	if got != want {
		t.Errorf("P16.1: %s = %t, want %t", what, got, want)
	}
}

// has holds what an effect variable has.
func has(t *testing.T, b *basis.Basis, v int, atoms []api.Atom, vars ...int) {
	t.Helper()
	if e, l := b.Has(v); !slices.Equal(e, atoms) || !slices.Equal(l, vars) {
		t.Errorf("P16.1: Has(%d) = %v, %v, want %v, %v", v, e, l, atoms, vars)
	}
}

// comes holds what comes of effect variables.
func comes(t *testing.T, b *basis.Basis, of []int, atoms []api.Atom, vars ...int) {
	t.Helper()
	if e, l := b.Comes(of...); !slices.Equal(e, atoms) || !slices.Equal(l, vars) {
		t.Errorf("P16.1, P16.2: Comes(%v) = %v, %v, want %v, %v", of, e, l, atoms, vars)
	}
}

// counts holds how many regions and effect variables there are.
func counts(t *testing.T, b *basis.Basis, regions, vars int) {
	t.Helper()
	if r, v := b.Count(); r != regions || v != vars {
		t.Errorf("P16.1: Count = %d, %d, want %d, %d", r, v, regions, vars)
	}
}

// named hold the names of the regions, or of the effect variables, from 0 on.
func named(t *testing.T, name func(n int) int, want ...int) {
	t.Helper()
	for n, w := range want {
		if got := name(n); got != w {
			t.Errorf("P16.1: the name of %d is %d, want %d", n, got, w)
		}
	}
	for _, n := range []int{-1, math.MinInt, len(want), len(want) + 1, math.MaxInt} {
		if got := name(n); got != -1 {
			t.Errorf("P16.1: the name of %d is %d, but there is no such one", n, got)
		}
	}
}

func TestExample(t *testing.T) {
	b := filled(3, 2)
	is(t, "Add", b.Add(0, []api.Atom{get(0)}, 1), true)
	is(t, "Add", b.Add(1, []api.Atom{put(2)}), true)
	comes(t, b, []int{0}, []api.Atom{get(0), put(2)}, 0, 1)
	comes(t, b, []int{1}, []api.Atom{put(2)}, 1)
	has(t, b, 0, []api.Atom{get(0)}, 1)
}

func TestNewIsEmpty(t *testing.T) {
	b := basis.New()
	counts(t, b, 0, 0)
	named(t, b.Name)
	named(t, b.VarName)
	has(t, b, 0, nil)
	comes(t, b, nil, nil)
	comes(t, b, []int{0, 1}, nil)
	is(t, "Join of none", b.Join(), true)
	is(t, "JoinVars of none", b.JoinVars(), true)
	is(t, "Join of 0", b.Join(0), false)
	is(t, "JoinVars of 0", b.JoinVars(0), false)
	is(t, "Add to 0", b.Add(0, nil), false)
	counts(t, b.Copy(), 0, 0)
	if b.Copy() == b || b.Copy() == nil || basis.New() == b {
		t.Error("P16.1: another basis isn't another one")
	}
	b.Region()
	b.Var()
	counts(t, basis.New(), 0, 0)
}

// TestNilBasis is an empty one that stays so.
func TestNilBasis(t *testing.T) {
	var b *basis.Basis
	for range 3 {
		if b.Region() != -1 || b.Var() != -1 || b.Copy() != nil {
			t.Error("P16.1: a nil basis has more than an empty one")
		}
		counts(t, b, 0, 0)
		named(t, b.Name)
		named(t, b.VarName)
		for _, n := range []int{0, -1, 1, math.MaxInt, math.MinInt} {
			is(t, "Join", b.Join(n), false)
			is(t, "JoinVars", b.JoinVars(n, n), false)
			is(t, "Add", b.Add(n, nil), false)
			is(t, "Add", b.Add(n, []api.Atom{exn("E")}, n), false)
			has(t, b, n, nil)
			comes(t, b, []int{n, 0}, nil)
		}
		is(t, "Join of none", b.Join(), true)
		is(t, "Join of none", b.Join([]int{}...), true)
		is(t, "JoinVars of none", b.JoinVars(), true)
		comes(t, b, nil, nil)
	}
}

// TestNumbersRise has regions and effect variables counted each by themselves, those that are one, too.
func TestNumbersRise(t *testing.T) {
	b := basis.New()
	regions, vars := 0, 0
	for n := range 3000 {
		counts(t, b, regions, vars)
		if n%3 != 1 {
			if got := b.Region(); got != regions {
				t.Fatal("P16.1: Region =", got, "want", regions)
			}
			if b.Name(regions) != regions {
				t.Fatal("P16.1: the name of a new region isn't its own")
			}
			regions++
		}
		if n%5 != 2 {
			if got := b.Var(); got != vars {
				t.Fatal("P16.1: Var =", got, "want", vars)
			}
			if b.VarName(vars) != vars {
				t.Fatal("P16.1: the name of a new effect variable isn't its own")
			}
			has(t, b, vars, nil)
			comes(t, b, []int{vars}, nil, vars)
			vars++
		}
		if n%7 == 3 {
			is(t, "Join", b.Join(regions-1, regions/2), true)
			is(t, "JoinVars", b.JoinVars(vars/2, vars-1), true)
		}
	}
}

// TestNames has the least number for all that are one, in whichever order, and by however many calls, they became so.
func TestNames(t *testing.T) {
	for _, calls := range [][][]int{
		{{1, 3, 5, 4}},
		{{5, 4, 3, 1}},
		{{5, 4}, {4, 3}, {3, 1}},
		{{1, 3}, {3, 4}, {4, 5}},
		{{5, 3}, {4, 1}, {5, 4}},
		{{5, 3}, {4, 1}, {3, 1}},
		{{3, 4}, {1, 5}, {5, 3}, {4, 1}},
		{{1, 5}, {5, 1}, {4, 5, 4}, {3, 3}, {5, 5, 3, 5}},
		{{}, {4}, {5, 4, 3}, {2}, {1, 5}, {0}},
		{{3, 5, 1, 4, 1, 3, 5, 4}},
	} {
		b := filled(7, 7)
		for _, l := range calls {
			is(t, "Join", b.Join(l...), true)
		}
		named(t, b.Name, 0, 1, 2, 1, 1, 1, 6)
		named(t, b.VarName, 0, 1, 2, 3, 4, 5, 6) // these are others
		b = filled(7, 7)
		for _, l := range calls {
			is(t, "JoinVars", b.JoinVars(l...), true)
		}
		named(t, b.VarName, 0, 1, 2, 1, 1, 1, 6)
		named(t, b.Name, 0, 1, 2, 3, 4, 5, 6)
		counts(t, b, 7, 7)
	}
}

// bads are numbers that a basis with so many hasn't.
func bads(count int) []int { return []int{-1, -count, math.MinInt, count, count + 1, math.MaxInt} }

// TestJoinOfWrongOnes has a number that there isn't at each place among others.
func TestJoinOfWrongOnes(t *testing.T) {
	for n := 1; n < 5; n++ {
		for at := range n {
			for _, bad := range bads(5) {
				l := []int{3, 1, 2, 4}[:n]
				l[at] = bad
				b := filled(5, 9)
				is(t, "Join", b.Join(l...), false)
				named(t, b.Name, 0, 1, 2, 3, 4)
				counts(t, b, 5, 9)
				b = filled(9, 5)
				is(t, "Add", b.Add(3, []api.Atom{get(8)}, 4, 2), true)
				is(t, "Add", b.Add(1, []api.Atom{put(7)}, 1), true)
				is(t, "JoinVars", b.JoinVars(l...), false)
				named(t, b.VarName, 0, 1, 2, 3, 4)
				has(t, b, 3, []api.Atom{get(8)}, 2, 4)
				has(t, b, 1, []api.Atom{put(7)}, 1)
				counts(t, b, 9, 5)
			}
		}
	}
}

// TestAddOfWrongOnes has what may not be told at each place among what may: nothing of it is told then.
func TestAddOfWrongOnes(t *testing.T) {
	b := filled(4, 3)
	is(t, "Add", b.Add(1, []api.Atom{get(3), exn("E")}, 2), true)
	stays := func(what string, told bool) {
		t.Helper()
		is(t, what, told, false)
		has(t, b, 0, nil)
		has(t, b, 1, []api.Atom{get(3), exn("E")}, 2)
		has(t, b, 2, nil)
		counts(t, b, 4, 3)
	}
	for _, bad := range bads(3) {
		stays("Add to a variable that there isn't", b.Add(bad, nil))
		stays("Add to a variable that there isn't", b.Add(bad, []api.Atom{get(1)}, 0))
		for at := range 4 {
			l := slices.Insert([]int{0, 1, 2}, at, bad)
			stays("Add of a variable that there isn't", b.Add(1, []api.Atom{get(0)}, l...))
			stays("Add of a variable that there isn't", b.Add(0, nil, l...))
		}
	}
	odd := []api.Atom{
		{}, {Rho: 1}, {Exn: "E"}, {Kind: 4}, {Kind: 4, Rho: 1}, {Kind: 255, Exn: "E"},
		{Kind: 1, Exn: "E"}, {Kind: 2, Rho: 1, Exn: "E"}, {Kind: 3, Rho: 1, Exn: "E"}, {Kind: 3, Rho: -1, Exn: "E"},
		{Kind: 3}, exn("e"), exn("x"), exn("1"), exn("E "), exn("E\n"), exn("Ä"), exn("Abcdefghijklmnopq"),
	}
	for _, rho := range bads(4) {
		odd = append(odd, get(rho), put(rho))
	}
	for _, bad := range odd {
		for at := range 4 {
			l := slices.Insert([]api.Atom{get(0), put(3), exn("A")}, at, bad)
			stays("Add of what is no atom, or of no region there", b.Add(1, l, 1))
			stays("Add of what is no atom, or of no region there", b.Add(0, l))
		}
		stays("Add of what is no atom, or of no region there", b.Add(2, []api.Atom{bad}, 0, 1, 2))
	}
}

// TestExceptionsHaveNoRegion has them where there are no regions, and where the region 0 isn't alone.
func TestExceptionsHaveNoRegion(t *testing.T) {
	b := filled(0, 2)
	is(t, "Add", b.Add(0, []api.Atom{exn("E"), exn("Abcdefghijklmnop")}, 1), true)
	is(t, "Add", b.Add(1, []api.Atom{exn("Z9"), get(0)}), false)
	has(t, b, 0, []api.Atom{exn("Abcdefghijklmnop"), exn("E")}, 1)
	comes(t, b, []int{0}, []api.Atom{exn("Abcdefghijklmnop"), exn("E")}, 0, 1)
	b.Region()
	b.Region()
	is(t, "Join", b.Join(1, 0), true)
	is(t, "Add", b.Add(1, []api.Atom{exn("E"), get(1), put(0)}), true)
	has(t, b, 1, []api.Atom{get(0), put(0), exn("E")})
	comes(t, b, []int{0}, []api.Atom{get(0), put(0), exn("Abcdefghijklmnop"), exn("E")}, 0, 1)
}

// TestAdd tells more and more: all of it is there, rising, each once.
func TestAdd(t *testing.T) {
	b := filled(12, 5)
	is(t, "Add of nothing", b.Add(2, nil), true)
	is(t, "Add of nothing", b.Add(2, []api.Atom{}, []int{}...), true)
	has(t, b, 2, nil)
	is(t, "Add", b.Add(2, []api.Atom{put(3), get(10), exn("B"), get(9), put(3)}, 4, 0, 4), true)
	has(t, b, 2, []api.Atom{get(9), get(10), put(3), exn("B")}, 0, 4)
	is(t, "Add", b.Add(2, []api.Atom{get(9), exn("A"), exn("B"), put(0)}, 1, 0), true)
	has(t, b, 2, []api.Atom{get(9), get(10), put(0), put(3), exn("A"), exn("B")}, 0, 1, 4)
	is(t, "Add", b.Add(2, nil, 2), true) // itself, too, is what it has
	has(t, b, 2, []api.Atom{get(9), get(10), put(0), put(3), exn("A"), exn("B")}, 0, 1, 2, 4)
	for _, v := range []int{0, 1, 3, 4, 5, -1} {
		has(t, b, v, nil)
	}
	comes(t, b, []int{2}, []api.Atom{get(9), get(10), put(0), put(3), exn("A"), exn("B")}, 0, 1, 2, 4)
}

// TestHasByNames has what became one ahead of what was told, and behind it.
func TestHasByNames(t *testing.T) {
	for _, ahead := range []bool{true, false} {
		b := filled(6, 7)
		one := func() {
			is(t, "Join", b.Join(5, 2) && b.Join(4, 3, 1) && b.JoinVars(3, 1) && b.JoinVars(6, 5), true)
		}
		if ahead {
			one()
		}
		is(t, "Add", b.Add(0, []api.Atom{get(5), get(2), put(4), get(3), get(0), exn("E")}, 6, 3, 5, 4), true)
		is(t, "Add", b.Add(3, []api.Atom{put(5)}, 3), true)
		is(t, "Add", b.Add(1, []api.Atom{put(3), put(2)}, 0), true)
		is(t, "Add", b.Add(6, nil, 2), true)
		if !ahead {
			one()
		}
		has(t, b, 0, []api.Atom{get(0), get(1), get(2), put(1), exn("E")}, 1, 4, 5)
		for _, v := range []int{1, 3} { // what each of those that are one was told
			has(t, b, v, []api.Atom{put(1), put(2)}, 0, 1)
		}
		has(t, b, 5, nil, 2)
		has(t, b, 6, nil, 2)
		has(t, b, 4, nil)
		has(t, b, 2, nil)
		is(t, "Add", b.Add(5, []api.Atom{get(4)}), true)
		is(t, "Add", b.Add(6, []api.Atom{get(1)}), true)
		has(t, b, 5, []api.Atom{get(1)}, 2)
		has(t, b, 6, []api.Atom{get(1)}, 2)
		comes(t, b, []int{6}, []api.Atom{get(1)}, 2, 5)
		comes(t, b, []int{3}, []api.Atom{get(0), get(1), get(2), put(1), put(2), exn("E")}, 0, 1, 2, 4, 5)
	}
}

// TestOneWithWhatItHas has variables that are one with what one of them has: it has itself then.
func TestOneWithWhatItHas(t *testing.T) {
	b := filled(0, 4)
	is(t, "Add", b.Add(1, nil, 3) && b.Add(3, nil, 2) && b.JoinVars(3, 1), true)
	has(t, b, 1, nil, 1, 2)
	has(t, b, 3, nil, 1, 2)
	has(t, b, 2, nil)
	comes(t, b, []int{3}, nil, 1, 2)
	is(t, "JoinVars", b.JoinVars(2, 0), true)
	has(t, b, 1, nil, 0, 1)
	has(t, b, 0, nil)
	comes(t, b, []int{2, 3}, nil, 0, 1)
}

// TestComes has rows, rings and crosses of variables, of some that there are, and of some that there aren't.
func TestComes(t *testing.T) {
	b := filled(6, 8)
	is(t, "Add", b.Add(5, []api.Atom{get(5)}, 3), true)
	is(t, "Add", b.Add(3, []api.Atom{get(3), exn("C")}, 4, 1), true)
	is(t, "Add", b.Add(4, []api.Atom{put(4)}, 5), true)
	is(t, "Add", b.Add(1, []api.Atom{get(1), get(3)}), true)
	is(t, "Add", b.Add(7, []api.Atom{put(0)}, 7), true)
	is(t, "Add", b.Add(6, nil, 7, 1), true)
	ring := []api.Atom{get(1), get(3), get(5), put(4), exn("C")}
	for _, l := range [][]int{{3}, {4}, {5}, {5, 4, 3}, {1, 5}, {4, 4, 1}, {-1, 3, 8, math.MaxInt, math.MinInt}} {
		comes(t, b, l, ring, 1, 3, 4, 5)
	}
	comes(t, b, []int{6}, []api.Atom{get(1), get(3), put(0)}, 1, 6, 7)
	comes(t, b, []int{7}, []api.Atom{put(0)}, 7)
	comes(t, b, []int{1}, []api.Atom{get(1), get(3)}, 1)
	comes(t, b, []int{2, 0, 2}, nil, 0, 2)
	comes(t, b, []int{6, 3}, []api.Atom{get(1), get(3), get(5), put(0), put(4), exn("C")}, 1, 3, 4, 5, 6, 7)
	comes(t, b, nil, nil)
	comes(t, b, []int{8, -1}, nil)
	is(t, "JoinVars", b.JoinVars(2, 4), true)
	comes(t, b, []int{4}, ring, 1, 2, 3, 5)
	is(t, "Join", b.Join(4, 5, 0), true)
	comes(t, b, []int{2}, []api.Atom{get(0), get(1), get(3), put(0), exn("C")}, 1, 2, 3, 5)
}

// TestCopy has a copy, and what it was made of, go ways of their own.
func TestCopy(t *testing.T) {
	b := filled(4, 4)
	is(t, "all", b.Join(2, 1) && b.JoinVars(3, 2) && b.Add(2, []api.Atom{get(2)}, 0) && b.Add(0, []api.Atom{exn("E")}), true)
	c := b.Copy()
	same := func(b *basis.Basis) {
		t.Helper()
		counts(t, b, 4, 4)
		named(t, b.Name, 0, 1, 1, 3)
		named(t, b.VarName, 0, 1, 2, 2)
		has(t, b, 3, []api.Atom{get(1)}, 0)
		has(t, b, 0, []api.Atom{exn("E")})
		comes(t, b, []int{3}, []api.Atom{get(1), exn("E")}, 0, 2)
	}
	same(b)
	same(c)
	if c.Region() != 4 || c.Var() != 4 {
		t.Error("P16.1: Region, Var of a copy")
	}
	is(t, "all", c.Join(3, 0) && c.JoinVars(1, 3) && c.Add(0, []api.Atom{put(3), put(4)}, 4) && c.Add(2, []api.Atom{get(4)}, 2) && c.Add(4, nil, 1), true)
	same(b)
	d := b.Copy()
	is(t, "all", b.Join(3, 1) && b.JoinVars(0, 1) && b.Add(1, []api.Atom{put(3)}) && b.Add(2, []api.Atom{put(0)}), true)
	b.Region()
	same(d)
	named(t, c.Name, 0, 1, 1, 0, 4)
	named(t, c.VarName, 0, 1, 1, 1, 4)
	has(t, c, 0, []api.Atom{put(0), put(4), exn("E")}, 4)
	has(t, c, 3, []api.Atom{get(1), get(4)}, 0, 1)
	named(t, b.Name, 0, 1, 1, 1, 4)
	named(t, b.VarName, 0, 0, 2, 2)
	has(t, b, 0, []api.Atom{put(1), exn("E")})
	has(t, b, 3, []api.Atom{get(1), put(0)}, 0)
	counts(t, c, 5, 5)
	counts(t, b, 5, 4)
}
