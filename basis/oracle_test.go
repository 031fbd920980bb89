package basis_test

import (
	"fmt"
	"maps"
	"regexp"
	"slices"
	"sort"
	"testing"

	"enclave/api"
	"enclave/basis"
)

func get(r int) api.Atom { return api.Atom{Kind: 1, Rho: r} }

func put(r int) api.Atom { return api.Atom{Kind: 2, Rho: r} }

func exn(s string) api.Atom { return api.Atom{Kind: 3, Exn: s} }

// exnName is what chapter 2 tells of an exception's name.
var exnName = regexp.MustCompile(`\A[A-Z][a-zA-Z0-9]{0,15}\z`)

// telling is that an effect variable has these, too.
type telling struct {
	v     int
	atoms []api.Atom
	vars  []int
}

// oracle is what a basis is to be, told in another way: it keeps the whole row of what was told, as it was told, and finds each answer anew out of that.
type oracle struct {
	none                  bool // it is that of a nil basis
	regions, vars         int
	oneRegions, oneVars   [][]int
	regionNames, varNames []int
	tellings              []telling
}

// settle finds all names anew.
func (o *oracle) settle() {
	o.regionNames, o.varNames = names(o.oneRegions, o.regions), names(o.oneVars, o.vars)
}

func (o *oracle) region() int {
	if o.none {
		return -1
	}
	o.regions++
	o.settle()
	return o.regions - 1
}

func (o *oracle) variable() int {
	if o.none {
		return -1
	}
	o.vars++
	o.settle()
	return o.vars - 1
}

// within tells whether all are from 0 on, and less than count.
func within(count int, l ...int) bool {
	for _, n := range l {
		if n < 0 || n >= count {
			return false
		}
	}
	return true
}

func (o *oracle) join(l ...int) bool {
	if !within(o.regions, l...) {
		return false
	}
	o.oneRegions = append(o.oneRegions, slices.Clone(l))
	o.settle()
	return true
}

func (o *oracle) joinVars(l ...int) bool {
	if !within(o.vars, l...) {
		return false
	}
	o.oneVars = append(o.oneVars, slices.Clone(l))
	o.settle()
	return true
}

func (o *oracle) add(v int, atoms []api.Atom, vars ...int) bool {
	if !within(o.vars, v) || !within(o.vars, vars...) {
		return false
	}
	for _, a := range atoms {
		switch a.Kind {
		case 1, 2:
			if !within(o.regions, a.Rho) || a.Exn != "" {
				return false
			}
		case 3:
			if a.Rho != 0 || !exnName.MatchString(a.Exn) {
				return false
			}
		default:
			return false
		}
	}
	o.tellings = append(o.tellings, telling{v, slices.Clone(atoms), slices.Clone(vars)})
	return true
}

// names are the least numbers of those that are one with each: with it, and all in lists in which one of them stands.
func names(one [][]int, count int) []int {
	var least []int
	for n := range count {
		ones := map[int]bool{n: true}
		for before := 0; before < len(ones); {
			before = len(ones)
			for _, l := range one {
				if slices.ContainsFunc(l, func(k int) bool { return ones[k] }) {
					for _, k := range l {
						ones[k] = true
					}
				}
			}
		}
		least = append(least, slices.Min(slices.Collect(maps.Keys(ones))))
	}
	return least
}

func (o *oracle) name(r int) int {
	if !within(o.regions, r) {
		return -1
	}
	return o.regionNames[r]
}

func (o *oracle) varName(v int) int {
	if !within(o.vars, v) {
		return -1
	}
	return o.varNames[v]
}

// key is a text that is ordered among others byte by byte as the atom is among the others.
func key(a api.Atom) string { return fmt.Sprintf("%d %020d %s", a.Kind, a.Rho, a.Exn) }

// lists are sets of atoms, by their keys, and of effect variables, as lists that rise.
func lists(atoms map[string]api.Atom, vars map[int]bool) ([]api.Atom, []int) {
	var keys []string
	for k := range atoms {
		keys = append(keys, k)
	}
	sort.Strings(keys)
	var e []api.Atom
	for _, k := range keys {
		e = append(e, atoms[k])
	}
	var l []int
	for v := range vars {
		l = append(l, v)
	}
	sort.Ints(l)
	return e, l
}

func (o *oracle) has(v int) ([]api.Atom, []int) {
	atoms, vars := map[string]api.Atom{}, map[int]bool{}
	for _, told := range o.tellings {
		if o.varName(told.v) != o.varName(v) {
			continue
		}
		for _, a := range told.atoms {
			if a.Kind != 3 {
				a.Rho = o.name(a.Rho)
			}
			atoms[key(a)] = a
		}
		for _, w := range told.vars {
			vars[o.varName(w)] = true
		}
	}
	return lists(atoms, vars)
}

func (o *oracle) comes(l ...int) ([]api.Atom, []int) {
	vars := map[int]bool{}
	for _, v := range l {
		if within(o.vars, v) {
			vars[o.varName(v)] = true
		}
	}
	for {
		atoms, before := map[string]api.Atom{}, len(vars)
		_, all := lists(nil, vars)
		for _, v := range all {
			had, more := o.has(v)
			for _, a := range had {
				atoms[key(a)] = a
			}
			for _, w := range more {
				vars[w] = true
			}
		}
		if len(vars) == before {
			return lists(atoms, vars)
		}
	}
}

// copied is another oracle that is the same now.
func (o *oracle) copied() *oracle {
	c := *o
	c.oneRegions, c.oneVars, c.tellings = slices.Clone(o.oneRegions), slices.Clone(o.oneVars), slices.Clone(o.tellings)
	return &c
}

// call is something that a basis is told.
type call struct {
	what  string
	v     int
	l     []int
	atoms []api.Atom
}

// faces are the calls that tell something.
type faces struct {
	region, variable func() int
	join, joinVars   func(l ...int) bool
	add              func(v int, atoms []api.Atom, vars ...int) bool
}

func facesOf(b *basis.Basis) faces { return faces{b.Region, b.Var, b.Join, b.JoinVars, b.Add} }

func (o *oracle) faces() faces { return faces{o.region, o.variable, o.join, o.joinVars, o.add} }

// answer is what is answered to a call.
func (c call) answer(f faces) string {
	switch c.what {
	case "Region":
		return fmt.Sprint(f.region())
	case "Var":
		return fmt.Sprint(f.variable())
	case "Join":
		return fmt.Sprint(f.join(c.l...))
	case "JoinVars":
		return fmt.Sprint(f.joinVars(c.l...))
	case "Add":
		return fmt.Sprint(f.add(c.v, c.atoms, c.l...))
	}
	panic("no such call: " + c.what)
}

// side is a basis, its oracle, and what both were told.
type side struct {
	b   *basis.Basis
	o   *oracle
	row []call
}

// tell tells both something, and holds the answers against each other.
func (s *side) tell(t *testing.T, c call) string {
	t.Helper()
	s.row = append(s.row, c)
	got, want := c.answer(facesOf(s.b)), c.answer(s.o.faces())
	if got != want {
		t.Fatalf("P16.1: the last one of %v answers %s, want %s", s.row, got, want)
	}
	return got
}

// copied are copies of both.
func (s *side) copied() *side {
	return &side{s.b.Copy(), s.o.copied(), append(slices.Clone(s.row), call{what: "Copy"})}
}

// agree holds a basis against the oracle in all that can be asked, of numbers that there are, and others.
func (s *side) agree(t *testing.T) {
	t.Helper()
	regions, vars := s.b.Count()
	if regions != s.o.regions || vars != s.o.vars {
		t.Fatalf("P16.1: Count = %d, %d, want %d, %d, behind %v", regions, vars, s.o.regions, s.o.vars, s.row)
	}
	for n := -2; n < max(regions, vars)+2; n++ {
		if got, want := s.b.Name(n), s.o.name(n); got != want {
			t.Fatalf("P16.1: Name(%d) = %d, want %d, behind %v", n, got, want, s.row)
		}
		if got, want := s.b.VarName(n), s.o.varName(n); got != want {
			t.Fatalf("P16.1: VarName(%d) = %d, want %d, behind %v", n, got, want, s.row)
		}
		atoms, has := s.b.Has(n)
		wantAtoms, wantHas := s.o.has(n)
		if !slices.Equal(atoms, wantAtoms) || !slices.Equal(has, wantHas) {
			t.Fatalf("P16.1: Has(%d) = %v, %v, want %v, %v, behind %v", n, atoms, has, wantAtoms, wantHas, s.row)
		}
		s.agreeComes(t, n)
		s.agreeComes(t, n, vars-1, n-1)
	}
	s.agreeComes(t)
}

// agreeComes holds what comes of effect variables against the oracle, and what comes of all these against itself.
func (s *side) agreeComes(t *testing.T, l ...int) {
	t.Helper()
	atoms, vars := s.b.Comes(l...)
	wantAtoms, wantVars := s.o.comes(l...)
	if !slices.Equal(atoms, wantAtoms) || !slices.Equal(vars, wantVars) {
		t.Fatalf("P16.1, P16.2: Comes(%v) = %v, %v, want %v, %v, behind %v", l, atoms, vars, wantAtoms, wantVars, s.row)
	}
	for _, v := range vars {
		more, others := s.b.Comes(v)
		for _, a := range more {
			if !slices.Contains(atoms, a) {
				t.Fatalf("P16.2: %d comes of %v, but %v, which comes of it, doesn't, behind %v", v, l, a, s.row)
			}
		}
		for _, w := range others {
			if !slices.Contains(vars, w) {
				t.Fatalf("P16.2: %d comes of %v, but %d, which comes of it, doesn't, behind %v", v, l, w, s.row)
			}
		}
	}
}
