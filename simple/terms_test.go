package simple_test

import (
	"math/rand"
	"slices"
	"testing"

	"enclave/api"
	"enclave/parse"
)

// node is a term of a head and kids.
func node(h api.Head, kids ...api.Term) api.Term { return api.Term{Head: h, Kids: kids} }

// term is a term of a kind and kids.
func term(kind uint8, kids ...api.Term) api.Term { return node(api.Head{Kind: kind}, kids...) }

func number() api.Term { return node(api.Head{Kind: 1, N: 7}) }

func name(s string) api.Term { return node(api.Head{Kind: 2, Name: s}) }

// read is the term of a text.
func read(t *testing.T, s string) api.Term {
	t.Helper()
	x, _, e := parse.Term([]byte(s))
	if e != api.OK {
		t.Fatal("not read:", s)
	}
	return x
}

// heads are heads of a kind with each of these names in its fields.
func (r kindRow) heads(names []string) []api.Head {
	l := []api.Head{{Kind: r.kind}}
	for _, f := range r.fields {
		var more []api.Head
		for _, h := range l {
			switch f {
			case "Name":
				for _, h.Name = range names {
					more = append(more, h)
				}
			case "Arg":
				for _, h.Arg = range names {
					more = append(more, h)
				}
			case "Op":
				h.Op = 1
				more = append(more, h)
			case "N":
				h.N = 7
				more = append(more, h)
			case "Exn":
				h.Exn = "E"
				more = append(more, h)
			}
		}
		l = more
	}
	return l
}

// smallTerms are all terms of just n nodes, by how many nodes they have, of these names.
func smallTerms(most int, rows []kindRow, names []string) [][]api.Term {
	all := [][]api.Term{nil}
	for n := 1; n <= most; n++ {
		var l []api.Term
		for _, r := range rows {
			for _, h := range r.heads(names) {
				for _, kids := range kidsOf(all, r.kids, n-1) {
					l = append(l, node(h, kids...))
				}
			}
		}
		all = append(all, l)
	}
	return all
}

// kidsOf are all rows of so many kids with so many nodes together.
func kidsOf(all [][]api.Term, kids, nodes int) [][]api.Term {
	if kids == 0 {
		if nodes == 0 {
			return [][]api.Term{nil}
		}
		return nil
	}
	var l [][]api.Term
	for n := 1; n <= nodes && n < len(all); n++ {
		rest := kidsOf(all, kids-1, nodes-n)
		for _, first := range all[n] {
			for _, r := range rest {
				l = append(l, append([]api.Term{first}, r...))
			}
		}
	}
	return l
}

// isClosed tells whether no name is free in a term.
func isClosed(t api.Term) bool {
	for _, p := range (&maker{}).place(t, nil).forth() {
		if _, is := p.bound(); p.Kind == 2 && !is {
			return false
		}
	}
	return true
}

// scatter gives each node a place of its own, such that they don't grow in the order of nodes.
func scatter(t api.Term, next *int) api.Term {
	t.At = 1 + (*next*1549+777)%4001
	*next++
	kids := t.Kids
	t.Kids = nil
	for _, k := range kids {
		t.Kids = append(t.Kids, scatter(k, next))
	}
	return t
}

// scattered is a term whose nodes stand all about.
func scattered(t api.Term) api.Term { return scatter(t, new(int)) }

// local is a name that is bound, and the type that is meant for it.
type local struct {
	name string
	is   api.Type
}

// grower grows terms that types fit.
type grower struct{ *rand.Rand }

// typ is a type of about so many nodes.
func (g grower) typ(nodes int) api.Type {
	if nodes <= 1 {
		return num()
	}
	first := g.Intn(nodes)
	switch g.Intn(4) {
	case 0:
		return ref(g.typ(nodes - 1))
	case 1:
		return fn(g.typ(first), g.typ(nodes-1-first))
	}
	return pair(g.typ(first), g.typ(nodes-1-first))
}

// known is a type that one of the names has, or another one.
func (g grower) known(bound []local) api.Type {
	if len(bound) > 0 && g.Intn(3) > 0 {
		return bound[g.Intn(len(bound))].is
	}
	return g.typ(1 + g.Intn(5))
}

// name is a name, of so few that they are often bound twice.
func (g grower) name() string { return []string{"x", "y", "f", "g"}[g.Intn(4)] }

// grow is a term of about so many nodes that may have a type, where names are bound.
func (g grower) grow(bound []local, is api.Type, nodes int) api.Term {
	if nodes <= 1 {
		return g.leaf(bound, is, nodes)
	}
	first := g.Intn(nodes)
	rest := nodes - 1 - first
	switch g.Intn(16) {
	case 0:
		other := g.known(bound)
		return term(4, g.grow(bound, pair(is, other), nodes-1))
	case 1:
		other := g.known(bound)
		return term(5, g.grow(bound, pair(other, is), nodes-1))
	case 2:
		return term(7, g.grow(bound, ref(is), nodes-1))
	case 3, 4:
		arg := g.known(bound)
		return term(10, g.grow(bound, fn(arg, is), first), g.grow(bound, arg, rest))
	case 5, 6:
		h, other := api.Head{Kind: 12, Name: g.name()}, g.known(bound)
		return node(h, g.grow(bound, other, first), g.grow(with(bound, local{h.Name, other}), is, rest))
	case 7, 8:
		h, arg, answer := api.Head{Kind: 13, Name: g.name(), Arg: g.name()}, g.known(bound), g.known(bound)
		f := local{h.Name, fn(arg, answer)}
		return node(h, g.grow(with(bound, f, local{h.Arg, arg}), answer, first), g.grow(with(bound, f), is, rest))
	case 9:
		return term(14, g.grow(bound, num(), g.Intn(first+1)), g.grow(bound, is, first/2), g.grow(bound, is, rest))
	case 10:
		return node(api.Head{Kind: 15, Exn: "E"}, g.grow(bound, num(), nodes-1))
	case 11:
		h := api.Head{Kind: 16, Exn: "E", Arg: g.name()}
		return node(h, g.grow(bound, is, first), g.grow(with(bound, local{h.Arg, num()}), is, rest))
	}
	return g.made(bound, is, first, rest)
}

// made is a term whose kind makes what has such a type.
func (g grower) made(bound []local, is api.Type, first, rest int) api.Term {
	switch is.Kind {
	case 2:
		return term(3, g.grow(bound, is.Kids[0], first), g.grow(bound, is.Kids[1], rest))
	case 3:
		return term(6, g.grow(bound, is.Kids[0], first+rest))
	case 4:
		h := api.Head{Kind: 11, Arg: g.name()}
		return node(h, g.grow(with(bound, local{h.Arg, is.Kids[0]}), is.Kids[1], first+rest))
	}
	if g.Intn(3) == 0 {
		other := g.known(bound)
		return term(8, g.grow(bound, ref(other), first), g.grow(bound, other, rest))
	}
	return node(api.Head{Kind: 9, Op: uint8(1 + g.Intn(5))}, g.grow(bound, num(), first), g.grow(bound, num(), rest))
}

// leaf is a short term of a type: a name of it, if there is one.
func (g grower) leaf(bound []local, is api.Type, nodes int) api.Term {
	for range 8 {
		if len(bound) == 0 {
			break
		}
		l := bound[g.Intn(len(bound))]
		last := slices.IndexFunc(bound, func(o local) bool { return o.name == l.name })
		if last >= 0 && text(bound[last].is) == text(is) {
			return name(l.name)
		}
	}
	if is.Kind == 1 {
		return number()
	}
	if g.Intn(4) == 0 {
		return node(api.Head{Kind: 15, Exn: "E"}, number())
	}
	return g.made(bound, is, 0, 0)
}

// with are names with more of them, the inmost ones first.
func with(bound []local, more ...local) []local {
	for _, l := range more {
		bound = append([]local{l}, bound...)
	}
	return bound
}

// spoil puts another term in place of some node.
func (g grower) spoil(t api.Term) api.Term {
	if len(t.Kids) == 0 || g.Intn(4) == 0 {
		switch g.Intn(6) {
		case 0:
			return number()
		case 1:
			return name(g.name())
		case 2:
			return term(3, t, number())
		case 3:
			return term(uint8(4+g.Intn(4)), t)
		case 4:
			return node(api.Head{Kind: 15, Exn: "F"}, t)
		}
		return term(10, t, name(g.name()))
	}
	i := g.Intn(len(t.Kids))
	t.Kids = slices.Clone(t.Kids)
	t.Kids[i] = g.spoil(t.Kids[i])
	return t
}
