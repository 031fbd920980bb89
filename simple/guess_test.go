package simple_test

import (
	"slices"
	"testing"

	"enclave/api"
	"enclave/simple"
)

// This file finds types without solving anything: it guesses what no kid tells (of KFn Arg's type, of KLetrec Arg's and what its function answers, of KRaise its T), whatever it may be, and looks what comes of it. A term is typable, if it is with some guess. Else the first node at which things can't hold together is the one that no guess comes behind.

// guess is types for what no kid tells, as they are met, and how many nodes hold.
type guess struct {
	types []api.Type
	done  int
}

// next is another guess.
func (g *guess) next() api.Type {
	t := g.types[0]
	g.types = g.types[1:]
	return t
}

// typed is a term with types, as far as they come of the guess, and whether all holds.
func (g *guess) typed(bound map[string]api.Type, t api.Term) (api.Typed, bool) {
	y := api.Typed{Head: t.Head}
	var marks []api.Type
	for range guesses(t.Kind) {
		marks = append(marks, g.next())
	}
	if t.Kind == 13 {
		y.Bind = fn(marks[0], marks[1])
	}
	var kids []api.Type
	for i, k := range t.Kids {
		within := map[string]api.Type{}
		for s, is := range bound {
			within[s] = is
		}
		for _, f := range []string{"Name", "Arg"} { // Arg behind Name, as it counts, if both are the same
			if slices.Contains(boundIn(t.Kind, f), i) {
				s, is := named(t, f, kids, marks)
				within[s] = is
			}
		}
		kid, holds := g.typed(within, k)
		if !holds {
			return y, false
		}
		y.Kids, kids = append(y.Kids, kid), append(kids, kid.Type)
	}
	is, holds := comes(t, bound, kids, marks)
	if !holds {
		return y, false
	}
	y.Type = is
	g.done++
	return y, true
}

// guesses are how many types no kid tells.
func guesses(kind uint8) int {
	switch kind {
	case 11, 15:
		return 1
	case 13:
		return 2
	}
	return 0
}

// named is a name that a node binds, and its type.
func named(t api.Term, field string, kids, marks []api.Type) (string, api.Type) {
	switch {
	case t.Kind == 12:
		return t.Name, kids[0]
	case t.Kind == 13 && field == "Name":
		return t.Name, fn(marks[0], marks[1])
	case t.Kind == 16:
		return t.Arg, num()
	}
	return t.Arg, marks[0]
}

// comes is a node's type, as it comes of its kids', and whether there is one.
func comes(t api.Term, bound map[string]api.Type, kids, marks []api.Type) (api.Type, bool) {
	is := func(i int, other api.Type) bool { return text(kids[i]) == text(other) }
	switch t.Kind {
	case 2:
		return bound[t.Name], true
	case 3:
		return pair(kids[0], kids[1]), true
	case 4, 5:
		if kids[0].Kind != 2 {
			return num(), false
		}
		return kids[0].Kids[t.Kind-4], true
	case 6:
		return ref(kids[0]), true
	case 7:
		if kids[0].Kind != 3 {
			return num(), false
		}
		return kids[0].Kids[0], true
	case 8:
		return num(), is(0, ref(kids[1]))
	case 9:
		return num(), is(0, num()) && is(1, num())
	case 10:
		if kids[0].Kind != 4 || !is(1, kids[0].Kids[0]) {
			return num(), false
		}
		return kids[0].Kids[1], true
	case 11:
		return fn(marks[0], kids[0]), true
	case 12:
		return kids[1], true
	case 13:
		return kids[1], is(0, marks[1])
	case 14:
		return kids[1], is(0, num()) && is(1, kids[2])
	case 15:
		return marks[0], is(0, num())
	case 16:
		return kids[0], is(0, kids[1])
	}
	return num(), true
}

// guessed is what Check is to answer of a term without free names, where guesses of so many nodes together are tried: of all types that fit the least ones, as all others come of them by types for variables, for which they have int.
func guessed(t api.Term, most int) (api.Typed, int, api.Errno) {
	n := 0
	for _, k := range kindsOf(t) {
		n += guesses(k)
	}
	var least api.Typed
	nodes, far, fit := 0, 0, false
	for _, l := range tuples(n, most) {
		g := &guess{types: l}
		y, holds := g.typed(nil, t)
		far = max(far, g.done)
		if holds && (!fit || typeNodes(y) < nodes) {
			least, nodes, fit = y, typeNodes(y), true
		}
	}
	if fit {
		return least, 0, api.OK
	}
	return api.Typed{}, back(t)[far].At, api.ErrType
}

// kindsOf are the kinds of a term's nodes.
func kindsOf(t api.Term) []uint8 {
	l := []uint8{t.Kind}
	for _, k := range t.Kids {
		l = append(l, kindsOf(k)...)
	}
	return l
}

// back are a term's nodes, each behind its kids.
func back(t api.Term) []api.Term {
	var l []api.Term
	for _, k := range t.Kids {
		l = append(l, back(k)...)
	}
	return append(l, t)
}

// typeNodes are how many nodes all types of a term have together.
func typeNodes(y api.Typed) int {
	n := size(y.Type) + size(y.Bind)
	for _, k := range y.Kids {
		n += typeNodes(k)
	}
	return n
}

// closedTypes are all closed types, by how many nodes they have.
var closedTypes = allClosed(9)

func allClosed(most int) [][]api.Type {
	all := [][]api.Type{nil, {num()}}
	for n := 2; n <= most; n++ {
		var l []api.Type
		for _, a := range all[n-1] {
			l = append(l, ref(a))
		}
		for first := 1; first < n-1; first++ {
			for _, a := range all[first] {
				for _, b := range all[n-1-first] {
					l = append(l, pair(a, b), fn(a, b))
				}
			}
		}
		all = append(all, l)
	}
	return all
}

// tuples are all rows of so many closed types with at most so many nodes together.
func tuples(n, most int) [][]api.Type {
	if n == 0 {
		return [][]api.Type{nil}
	}
	key := [2]int{n, most}
	if l, is := tupled[key]; is {
		return l
	}
	var l [][]api.Type
	for first := 1; first <= most-(n-1) && first < len(closedTypes); first++ {
		rest := tuples(n-1, most-first)
		for _, t := range closedTypes[first] {
			for _, r := range rest {
				l = append(l, append([]api.Type{t}, r...))
			}
		}
	}
	tupled[key] = l
	return l
}

var tupled = map[[2]int][][]api.Type{}

// TestByGuesses has all small terms without free names. None of n nodes needs a guess of more than 2n: if one did, what is guessed wouldn't be what Check answers.
func TestByGuesses(t *testing.T) {
	checked, fine := 0, 0
	for n, l := range smallTerms(4, kindRows, []string{"x", "f"}) {
		for _, x := range l {
			if !isClosed(x) {
				continue
			}
			x = scattered(x)
			want, wantAt, wantE := guessed(x, 2*n)
			got, at, e := simple.Check(x)
			if whole(got) != whole(want) || at != wantAt || e != wantE {
				t.Fatalf("P10.1: Check of %v = %s %d %d, want %s %d %d", x, whole(got), at, e, whole(want), wantAt, wantE)
			}
			checked++
			if e == api.OK {
				fine++
			}
		}
	}
	t.Log("terms", checked, "typable", fine)
}
