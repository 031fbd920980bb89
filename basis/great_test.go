package basis_test

import (
	"slices"
	"testing"

	"enclave/api"
	"enclave/basis"
)

const great = 1 << 17

// rising are the numbers from 0 on, less than n.
func rising(n int) []int {
	l := make([]int, n)
	for i := range l {
		l[i] = i
	}
	return l
}

// TestGreatJoins makes many regions, and effect variables that each have something, one, in rows of calls that are each the worst one for something.
func TestGreatJoins(t *testing.T) {
	for what, joins := range map[string]func(join func(l ...int) bool){
		"at once":        func(join func(l ...int) bool) { join(rising(great)...) },
		"from the first": func(join func(l ...int) bool) { pairs(join, func(n int) (int, int) { return n - 1, n }) },
		"from the last": func(join func(l ...int) bool) {
			pairs(join, func(n int) (int, int) { return great - n, great - n - 1 })
		},
		"with the first": func(join func(l ...int) bool) { pairs(join, func(n int) (int, int) { return 0, n }) },
		"with the last": func(join func(l ...int) bool) {
			pairs(join, func(n int) (int, int) { return great - 1, great - 1 - n })
		},
		"halves together": func(join func(l ...int) bool) { pairs(join, func(n int) (int, int) { return n, n & (n - 1) }) },
	} {
		b := filled(great, great)
		for v := range great {
			b.Add(v, []api.Atom{get(v)}, v)
		}
		joins(b.JoinVars)
		for _, v := range []int{0, 1, great / 2, great - 2, great - 1} {
			atoms, vars := b.Has(v)
			if b.VarName(v) != 0 || len(atoms) != great || atoms[great-1] != get(great-1) || !slices.Equal(vars, []int{0}) {
				t.Errorf("P16.1: %s: VarName and Has of %d = %d, %d atoms, %v", what, v, b.VarName(v), len(atoms), vars)
			}
		}
		joins(b.Join)
		for _, r := range []int{0, 1, great / 2, great - 2, great - 1} {
			if b.Name(r) != 0 {
				t.Errorf("P16.1: %s: Name(%d) = %d", what, r, b.Name(r))
			}
		}
		has(t, b, great-1, []api.Atom{get(0)}, 0)
	}
}

// pairs joins each pair of some.
func pairs(join func(l ...int) bool, pair func(n int) (int, int)) {
	for n := 1; n < great; n++ {
		join(pair(n))
	}
}

// TestGreatRow has a row, and then a ring, of variables each of which has one atom, and the next variable.
func TestGreatRow(t *testing.T) {
	b := filled(great, great)
	for v := range great - 1 {
		b.Add(v, []api.Atom{put(great - 1 - v)}, v+1)
	}
	for _, from := range []int{0, 1, great - 2} {
		atoms, vars := b.Comes(from)
		if len(atoms) != great-1-from || atoms[0] != put(1) || !slices.Equal(vars, rising(great)[from:]) {
			t.Errorf("P16.2: Comes(%d) in a row: %d atoms, %d variables", from, len(atoms), len(vars))
		}
	}
	b.Add(great-1, []api.Atom{put(0)}, 0)
	for _, from := range []int{0, great / 2, great - 1} {
		atoms, vars := b.Copy().Comes(from, 7)
		if len(atoms) != great || atoms[great-1] != put(great-1) || !slices.Equal(vars, rising(great)) {
			t.Errorf("P16.2: Comes(%d) in a ring: %d atoms, %d variables", from, len(atoms), len(vars))
		}
	}
}

// TestGreatVariable has one that has much, told at once, and bit by bit, several times.
func TestGreatVariable(t *testing.T) {
	var atoms []api.Atom
	for n := range great {
		atoms = append(atoms, get(n))
	}
	b := filled(great, great)
	for range 3 {
		is(t, "Add", b.Add(5, atoms, rising(great)...), true)
		for n := range great {
			b.Add(6, atoms[n:n+1], n)
		}
	}
	for v := 5; v < 7; v++ {
		e, l := b.Has(v)
		if !slices.Equal(e, atoms) || !slices.Equal(l, rising(great)) {
			t.Errorf("P16.1: Has(%d): %d atoms, %d variables", v, len(e), len(l))
		}
		e, l = b.Comes(v)
		if !slices.Equal(e, atoms) || !slices.Equal(l, rising(great)) {
			t.Errorf("P16.2: Comes(%d): %d atoms, %d variables", v, len(e), len(l))
		}
	}
}

// TestGreatCross has many variables that all have the same great many others, so that there are more ways to each than anybody can go.
func TestGreatCross(t *testing.T) {
	const wide, deep = 30, 60
	b := filled(wide*deep, wide*deep)
	for v := range wide * (deep - 1) {
		b.Add(v, []api.Atom{get(v)}, rising(wide * deep)[(v/wide+1)*wide:(v/wide+2)*wide]...)
	}
	for v := wide * (deep - 1); v < wide*deep; v++ {
		b.Add(v, []api.Atom{get(v)})
	}
	var want []api.Atom
	for v := wide; v < wide*deep; v++ {
		want = append(want, get(v))
	}
	comes(t, b, []int{3}, slices.Concat([]api.Atom{get(3)}, want), slices.Concat([]int{3}, rising(wide * deep)[wide:])...)
}

// TestManyBases has each with numbers of its own.
func TestManyBases(t *testing.T) {
	var all []*basis.Basis
	for range 50 {
		all = append(all, basis.New())
	}
	for n := range 50 {
		for i, b := range all {
			if b.Region() != n || b.Var() != n {
				t.Fatal("P16.1, P0.6: Region, Var")
			}
			b.Join(n, n*i/50)
			b.Add(n, []api.Atom{get(i * n / 50)}, i*n/50)
		}
	}
	for i, b := range all {
		other := basis.New()
		for n := range 50 {
			other.Region()
			other.Var()
			other.Join(n, n*i/50)
			other.Add(n, []api.Atom{get(i * n / 50)}, i*n/50)
		}
		if whole(b) != whole(other) {
			t.Error("P0.6: what another basis was told counts for this one")
		}
	}
}
