package unify_test

import (
	"fmt"
	"math/rand"
	"slices"
	"testing"

	"enclave/api"
	"enclave/unify"
)

// of is a type of a kind and kids.
func of(kind uint8, kids ...api.Type) api.Type { return api.Type{Kind: kind, Kids: kids} }

func num() api.Type { return of(1) }

func pair(a, b api.Type) api.Type { return of(2, a, b) }

func ref(a api.Type) api.Type { return of(3, a) }

func fn(a, b api.Type) api.Type { return of(4, a, b) }

func variable(n int) api.Type { return api.Type{Kind: 5, Var: n} }

// whole is all that there is of a type, as a text: two types are the same, if their wholes are.
func whole(t api.Type) string {
	if t.Kind == 1 && t.Var == 0 && len(t.Kids) == 0 {
		return "int"
	}
	if t.Kind == 5 && len(t.Kids) == 0 {
		return fmt.Sprintf("?%d", t.Var)
	}
	s := fmt.Sprintf("[%d %d", t.Kind, t.Var)
	for _, k := range t.Kids {
		s += " " + whole(k)
	}
	return s + "]"
}

func wholes(l []api.Type) string {
	s := ""
	for _, t := range l {
		s += whole(t) + " , "
	}
	return s
}

// clone is a type that shares no memory with another one.
func clone(t api.Type) api.Type {
	kids := t.Kids
	t.Kids = nil
	for _, k := range kids {
		t.Kids = append(t.Kids, clone(k))
	}
	return t
}

// size is how many nodes a type has.
func size(t api.Type) int {
	n := 1
	for _, k := range t.Kids {
		n += size(k)
	}
	return n
}

// put is a type with another one for each variable that has one.
func put(is map[int]api.Type, t api.Type) api.Type {
	if other, has := is[t.Var]; has && t.Kind == 5 {
		return other
	}
	kids := t.Kids
	t.Kids = nil
	for _, k := range kids {
		t.Kids = append(t.Kids, put(is, k))
	}
	return t
}

// may tells whether a type may be, with none but so many variables.
func may(t api.Type, vars int) bool {
	kids := map[uint8]int{1: 0, 2: 2, 3: 1, 4: 2, 5: 0}
	n, is := kids[t.Kind]
	if !is || n != len(t.Kids) || t.Var < 0 || t.Var > 0 && t.Kind != 5 || t.Kind == 5 && t.Var >= vars {
		return false
	}
	return !slices.ContainsFunc(t.Kids, func(k api.Type) bool { return !may(k, vars) })
}

// oracle is what a book is to be, told in another way: of all that was made the same it keeps the whole row, and puts what a variable is into all the rest each time that it is found. That takes long, but leaves little to be wrong.
type oracle struct {
	vars int
	told [][2]api.Type
	is   map[int]api.Type
}

// solve is what the variables are, if there is such a thing.
func solve(told [][2]api.Type) (map[int]api.Type, bool) {
	is := map[int]api.Type{}
	for row := slices.Clone(told); len(row) > 0; {
		a, b := put(is, row[0][0]), put(is, row[0][1])
		row = row[1:]
		switch {
		case whole(a) == whole(b):
		case b.Kind == 5 && (a.Kind != 5 || a.Var < b.Var):
			if !settle(is, b.Var, a) {
				return nil, false
			}
		case a.Kind == 5:
			if !settle(is, a.Var, b) {
				return nil, false
			}
		case a.Kind != b.Kind:
			return nil, false
		default:
			for i := range a.Kids {
				row = append(row, [2]api.Type{a.Kids[i], b.Kids[i]})
			}
		}
	}
	return is, true
}

// settle puts a type for a variable everywhere; it can't, if the variable stands in it.
func settle(is map[int]api.Type, v int, t api.Type) bool {
	if whole(put(map[int]api.Type{v: num()}, t)) != whole(t) {
		return false
	}
	for _, x := range is {
		if size(x) > 1<<12 || size(t) > 1<<12 {
			panic("too great for the oracle")
		}
	}
	for k := range is {
		is[k] = put(map[int]api.Type{v: t}, is[k])
	}
	is[v] = t
	return true
}

func (o *oracle) join(l ...api.Type) bool {
	if slices.ContainsFunc(l, func(t api.Type) bool { return !may(t, o.vars) }) {
		return false
	}
	told := slices.Clone(o.told)
	for i := range l {
		told = append(told, [2]api.Type{clone(l[0]), clone(l[i])})
	}
	is, can := solve(told)
	if can {
		o.told, o.is = told, is
	}
	return can
}

func (o *oracle) sense(t api.Type, most int) (api.Type, api.Errno) {
	if !may(t, o.vars) {
		return api.Type{}, api.ErrArg
	}
	if t = put(o.is, t); size(t) > most {
		return api.Type{}, api.ErrLong
	}
	return t, api.OK
}

// agree holds a book against the oracle: how many variables there are, and their senses.
func agree(t *testing.T, b *unify.Book, o *oracle) {
	t.Helper()
	if b.Vars() != o.vars {
		t.Fatalf("P9.1: Vars = %d, want %d", b.Vars(), o.vars)
	}
	for v := range o.vars {
		sensible(t, b, o, variable(v))
	}
}

// sensible holds a type's sense against the oracle's, with each number of nodes at which there may be a change.
func sensible(t *testing.T, b *unify.Book, o *oracle, x api.Type) {
	t.Helper()
	n := size(put(o.is, x))
	for _, most := range []int{1 << 62, n, n - 1} {
		got, e := b.Sense(x, most)
		want, wantE := o.sense(x, most)
		if e != wantE || whole(got) != whole(want) {
			t.Fatalf("P9.1, P9.2: Sense of %s with most %d = %s %d, want %s %d, behind %v", whole(x), most, whole(got), e, whole(want), wantE, o.told)
		}
	}
}

// smallTypes are all types of up to so many nodes, of such leaves.
func smallTypes(most int, leaves ...api.Type) []api.Type {
	sizes := [][]api.Type{nil, leaves}
	for n := 2; n <= most; n++ {
		var l []api.Type
		for _, a := range sizes[n-1] {
			l = append(l, ref(a))
		}
		for first := 1; first < n-1; first++ {
			for _, a := range sizes[first] {
				for _, b := range sizes[n-1-first] {
					l = append(l, pair(a, b), fn(a, b))
				}
			}
		}
		sizes = append(sizes, l)
	}
	return slices.Concat(sizes...)
}

// both are a new book and its oracle with so many variables.
func both(vars int) (*unify.Book, *oracle) {
	b := unify.New()
	for range vars {
		b.Fresh()
	}
	return b, &oracle{vars: vars}
}

// tell joins types in a book, and in the oracle.
func tell(t *testing.T, b *unify.Book, o *oracle, l ...api.Type) bool {
	t.Helper()
	got, want := b.Join(l...), o.join(l...)
	if got != want {
		t.Fatalf("P9.1: Join of %s = %t, behind %v", wholes(l), got, o.told)
	}
	return got
}

// TestEachTwoSmallTypes joins each two types of up to 4 nodes.
func TestEachTwoSmallTypes(t *testing.T) {
	l := smallTypes(4, num(), variable(0), variable(1), variable(2))
	for i, x := range l {
		for j, y := range l {
			b, o := both(3)
			if (i+j)%3 == 0 { // with something told ahead
				tell(t, b, o, variable(2), ref(variable(1)))
			}
			tell(t, b, o, x, y)
			agree(t, b, o)
		}
	}
}

// TestEachThreeEquations tells three things, one behind the other, and at once.
func TestEachThreeEquations(t *testing.T) {
	l := []api.Type{num(), variable(0), variable(1), variable(2), ref(variable(0)), ref(variable(2)), pair(variable(0), variable(1)), pair(variable(2), variable(2)), fn(variable(1), num())}
	for _, x := range l {
		for _, y := range l {
			for _, z := range l {
				b, o := both(3)
				tell(t, b, o, x, variable(1))
				tell(t, b, o, y, variable(2))
				tell(t, b, o, variable(0), z)
				agree(t, b, o)
				b, o = both(3)
				tell(t, b, o, x, y, z)
				agree(t, b, o)
				b, o = both(3)
				tell(t, b, o, pair(x, pair(y, z)), pair(variable(1), pair(variable(2), variable(0))))
				agree(t, b, o)
			}
		}
	}
}

// grown is a type of about so many nodes, some of whose leaves are variables below vars.
func grown(r *rand.Rand, left, vars int) api.Type {
	if left <= 1 {
		if vars > 0 && r.Intn(4) > 0 {
			return variable(r.Intn(vars))
		}
		return num()
	}
	first := r.Intn(left)
	switch r.Intn(5) {
	case 0:
		return ref(grown(r, left-1, vars))
	case 1, 2, 3:
		return pair(grown(r, first, vars), grown(r, left-1-first, vars))
	}
	return fn(grown(r, first, vars), grown(r, left-1-first, vars))
}

// spoil is a type that may not be, or has a variable that there isn't, in place of a kid of another, or of all of it.
func spoil(r *rand.Rand, t api.Type, vars int) api.Type {
	if len(t.Kids) > 0 && r.Intn(4) > 0 {
		i := r.Intn(len(t.Kids))
		t.Kids = slices.Clone(t.Kids)
		t.Kids[i] = spoil(r, t.Kids[i], vars)
		return t
	}
	bad := []api.Type{{}, variable(vars), variable(vars + 1), variable(-1), of(6), of(255), {Kind: 1, Var: 1}, of(2, num()), of(3), of(4, num(), num(), num()), of(1, num()), of(5, num())}
	return bad[r.Intn(len(bad))]
}

// walk makes a row of calls, and holds each against the oracle.
func walk(t *testing.T, r *rand.Rand, vars, calls, most int) {
	t.Helper()
	defer func() {
		if e := recover(); e != nil && e != "too great for the oracle" {
			panic(e)
		}
	}()
	b, o := both(vars)
	for range calls {
		l := make([]api.Type, min(r.Intn(5), 1+r.Intn(4)))
		for i := range l {
			l[i] = grown(r, 1+r.Intn(most), o.vars)
		}
		switch r.Intn(6) {
		case 0:
			if got := b.Fresh(); whole(got) != whole(variable(o.vars)) {
				t.Fatalf("P9.1: Fresh = %s, want ?%d", whole(got), o.vars)
			}
			o.vars++
		case 1:
			if len(l) > 0 {
				i := r.Intn(len(l))
				l[i] = spoil(r, l[i], o.vars)
			}
			tell(t, b, o, l...)
		case 2:
			for _, x := range l {
				sensible(t, b, o, x)
				x = spoil(r, x, o.vars)
				if got, e := b.Sense(x, r.Intn(20)-2); e != api.ErrArg || whole(got) != whole(api.Type{}) {
					t.Fatalf("P9.1: Sense of %s = %s %d, want ErrArg", whole(x), whole(got), e)
				}
			}
		default:
			tell(t, b, o, l...)
		}
		agree(t, b, o)
	}
}

func TestRowsOfCalls(t *testing.T) {
	r := rand.New(rand.NewSource(9))
	for n := range 6000 {
		walk(t, r, n%11, 5+n%30, 1+n%7)
	}
	for range 300 {
		walk(t, r, 30, 40, 12)
	}
}

// TestWhatHoldsForSomeTypes has types for variables first, and tells of them what holds: that can always be, and what is found has these types for one of its cases.
func TestWhatHoldsForSomeTypes(t *testing.T) {
	r := rand.New(rand.NewSource(90))
	for n := range 3000 {
		vars := 1 + n%9
		is := map[int]api.Type{}
		for v := range vars {
			is[v] = grown(r, 1+r.Intn(9), 0)
		}
		b, _ := both(vars)
		for range 12 {
			x := grown(r, 1+r.Intn(5), vars)
			y := veiled(r, put(is, x), is)
			if !b.Join(x, y) {
				t.Fatalf("P9.1: Join of %s and %s is false, but with %v they are the same", whole(x), whole(y), is)
			}
			if a, b := senseOf(t, b, x), senseOf(t, b, y); whole(a) != whole(b) {
				t.Fatalf("P9.2: one was made of %s and %s, but the senses are %s and %s", whole(x), whole(y), whole(a), whole(b))
			}
			for v := range vars {
				if s := senseOf(t, b, variable(v)); whole(put(is, s)) != whole(is[v]) {
					t.Fatalf("P9.2: the sense of ?%d is %s, which %s is no case of", v, whole(s), whole(is[v]))
				}
			}
		}
	}
}

// veiled is a type with variables for some parts that are what they are to be.
func veiled(r *rand.Rand, t api.Type, is map[int]api.Type) api.Type {
	for v := range len(is) {
		if whole(is[v]) == whole(t) && r.Intn(2) == 0 {
			return variable(v)
		}
	}
	t = clone(t)
	for i := range t.Kids {
		t.Kids[i] = veiled(r, t.Kids[i], is)
	}
	return t
}

// senseOf is a type's sense.
func senseOf(t *testing.T, b *unify.Book, x api.Type) api.Type {
	t.Helper()
	s, e := b.Sense(x, 1<<40)
	if e != api.OK {
		t.Fatalf("P9.1: Sense of %s: error %d", whole(x), e)
	}
	return s
}

// TestByTheWords has "can be the same" by its words: with each two types for two variables, of all closed ones of up to 5 nodes.
func TestByTheWords(t *testing.T) {
	closed := smallTypes(5, num())
	l := smallTypes(3, num(), variable(0), variable(1))
	for _, x := range l {
		for _, y := range l {
			b, _ := both(2)
			some := false
			for _, p := range closed {
				for _, q := range closed {
					is := map[int]api.Type{0: p, 1: q}
					some = some || whole(put(is, x)) == whole(put(is, y))
				}
			}
			// What has a case has one of so few nodes, as x and y have no more than 3.
			if got := b.Join(x, y); got != some {
				t.Errorf("P9.1: Join of %s and %s = %t, but there are such types: %t", whole(x), whole(y), got, some)
			}
		}
	}
}
