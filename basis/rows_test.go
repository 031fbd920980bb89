package basis_test

import (
	"math"
	"math/rand"
	"slices"
	"testing"

	"enclave/api"
	"enclave/basis"
)

// fresh are a new basis and its oracle with so many regions and effect variables.
func fresh(t *testing.T, regions, vars int) *side {
	s := &side{b: basis.New(), o: &oracle{}}
	for range regions {
		s.tell(t, call{what: "Region"})
	}
	for range vars {
		s.tell(t, call{what: "Var"})
	}
	return s
}

// few are calls of which rows are made: such as are true of three regions and four effect variables, and such as aren't.
func few() []call {
	return []call{
		{what: "Region"},
		{what: "Var"},
		{what: "Join", l: []int{1, 0}},
		{what: "Join", l: []int{2, 1}},
		{what: "Join", l: []int{0, 3, 1}},
		{what: "JoinVars", l: []int{1, 0}},
		{what: "JoinVars", l: []int{3, 2, 3}},
		{what: "JoinVars", l: []int{2, 1}},
		{what: "JoinVars", l: []int{0, 3, 4}},
		{what: "Add", v: 0, atoms: []api.Atom{get(2)}, l: []int{1}},
		{what: "Add", v: 1, atoms: []api.Atom{put(1), get(1), exn("E")}, l: []int{2}},
		{what: "Add", v: 2, atoms: []api.Atom{exn("E"), get(0)}, l: []int{3, 2}},
		{what: "Add", v: 3, atoms: []api.Atom{put(2), exn("A")}, l: []int{1}},
		{what: "Add", v: 3, atoms: []api.Atom{get(1), put(3)}, l: []int{0}},
		{what: "Add", v: 4, atoms: []api.Atom{get(1)}, l: []int{0, 4}},
		{what: "Copy"},
	}
}

// TestEachRowOfCalls tells all rows of up to four calls of a few. Where a copy is made, the row goes on with it, or, as it also may, with what it was made of.
func TestEachRowOfCalls(t *testing.T) {
	calls := few()
	for _, c := range calls {
		for _, d := range calls {
			for _, e := range calls {
				for n, f := range calls {
					s := fresh(t, 3, 4)
					var others []*side
					for _, x := range []call{c, d, e, f} {
						if x.what != "Copy" {
							s.tell(t, x)
							continue
						}
						other := s.copied()
						if n%2 == 0 {
							s, other = other, s
						}
						others = append(others, other)
					}
					s.agree(t)
					for _, other := range others {
						other.agree(t)
					}
				}
			}
		}
	}
}

// some are random numbers, most of which are from 0 on, and less than count.
func some(r *rand.Rand, count, most int) []int {
	l := make([]int, r.Intn(most+1))
	for i := range l {
		l[i] = r.Intn(max(count, 1))
	}
	if len(l) > 0 && r.Intn(8) == 0 {
		bad := []int{-1, count, count + 1, math.MaxInt, math.MinInt, -count}
		l[r.Intn(len(l))] = bad[r.Intn(len(bad))]
	}
	return l
}

// someAtoms are random atoms, most of which are of regions that there are.
func someAtoms(r *rand.Rand, regions int) []api.Atom {
	var l []api.Atom
	for _, rho := range some(r, regions, 4) {
		l = append(l, [][]api.Atom{{get(rho)}, {put(rho)}, {exn([]string{"A", "B", "B2"}[r.Intn(3)])}, {get(rho), put(rho)}}[r.Intn(4)]...)
	}
	if len(l) > 0 && r.Intn(12) == 0 {
		bad := []api.Atom{{}, {Kind: 4}, {Kind: 255, Rho: 0}, {Kind: 1, Exn: "E"}, {Kind: 3}, {Kind: 3, Rho: 1, Exn: "E"}, exn("e"), exn("E "), exn("Abcdefghijklmnopq")}
		l[r.Intn(len(l))] = bad[r.Intn(len(bad))]
	}
	return l
}

// someCall is a random call.
func someCall(r *rand.Rand, o *oracle) call {
	switch r.Intn(9) {
	case 0:
		return call{what: "Region"}
	case 1:
		return call{what: "Var"}
	case 2:
		return call{what: "Join", l: some(r, o.regions, 3)}
	case 3:
		return call{what: "JoinVars", l: some(r, o.vars, 3)}
	}
	c := call{what: "Add", v: r.Intn(max(o.vars, 1)), atoms: someAtoms(r, o.regions), l: some(r, o.vars, 3)}
	if r.Intn(12) == 0 {
		c.v = []int{-1, o.vars, math.MaxInt, math.MinInt}[r.Intn(4)]
	}
	return c
}

// TestRowsOfCalls tells random rows to a basis, and to copies of it, and of these, in turn; behind each call all of them are as their own rows say.
func TestRowsOfCalls(t *testing.T) {
	r := rand.New(rand.NewSource(16))
	for n := range 1500 {
		all := []*side{fresh(t, n%7, n%9)}
		for range 4 + n%20 {
			s := all[r.Intn(len(all))]
			if r.Intn(8) == 0 && len(all) < 4 {
				all = append(all, s.copied())
				continue
			}
			s.tell(t, someCall(r, s.o))
			for _, s := range all {
				s.agree(t)
			}
		}
	}
}

// TestLongRowsOfCalls tells longer ones, which are looked at only when they are over.
func TestLongRowsOfCalls(t *testing.T) {
	r := rand.New(rand.NewSource(160))
	for n := range 60 {
		s := fresh(t, 5+n, 10+n/2)
		for range 100 {
			s.tell(t, someCall(r, s.o))
		}
		s.agree(t)
	}
}

// TestInWhateverOrder tells the same in several orders: nothing hangs on that.
func TestInWhateverOrder(t *testing.T) {
	r := rand.New(rand.NewSource(1600))
	for n := range 300 {
		first := fresh(t, 6, 8)
		for range 3 + n%15 {
			if c := someCall(r, first.o); c.what != "Region" && c.what != "Var" {
				first.tell(t, c)
			}
		}
		row := slices.Clone(first.row[14:])
		for range 6 {
			r.Shuffle(len(row), func(i, j int) { row[i], row[j] = row[j], row[i] })
			s := fresh(t, 6, 8)
			for _, c := range row {
				s.tell(t, c)
			}
			s.o = first.o
			s.agree(t)
		}
	}
}

// TestAskedInBetween asks all that can be asked behind each call of one basis, and nothing of another one till the row is over: what was asked ahead counts for nothing.
func TestAskedInBetween(t *testing.T) {
	r := rand.New(rand.NewSource(61))
	for range 300 {
		asked, silent := fresh(t, 5, 6), fresh(t, 5, 6)
		for range 12 {
			c := someCall(r, asked.o)
			asked.tell(t, c)
			asked.agree(t)
			silent.tell(t, c)
		}
		silent.agree(t)
	}
}
