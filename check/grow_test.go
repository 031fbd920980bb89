package check_test

import (
	"math/rand"
	"slices"

	"enclave/api"
	"enclave/effect"
	"enclave/rtype"
)

func get(n int) api.Atom { return api.Atom{Kind: 1, Rho: n} }

func put(n int) api.Atom { return api.Atom{Kind: 2, Rho: n} }

func exn(s string) api.Atom { return api.Atom{Kind: 3, Exn: s} }

func intType() api.RType { return api.RType{Kind: 1} }

func pairType(rho int, a, b api.RType) api.RType {
	return api.RType{Kind: 2, Rho: rho, Kids: []api.RType{a, b}}
}

func refType(rho int, a api.RType) api.RType {
	return api.RType{Kind: 3, Rho: rho, Kids: []api.RType{a}}
}

func fnType(rho int, a, b api.RType, e ...api.Atom) api.RType {
	return api.RType{Kind: 4, Rho: rho, Eff: e, Kids: []api.RType{a, b}}
}

// node is a term of a head, with a region, and kids.
func node(h api.Head, rho int, kids ...api.ATerm) api.ATerm {
	return api.ATerm{Head: h, Rho: rho, Kids: kids}
}

// of is a term of a kind, with kids.
func of(kind uint8, kids ...api.ATerm) api.ATerm { return node(api.Head{Kind: kind}, 0, kids...) }

// in is a term of a kind, with a region, and kids.
func in(rho int, kind uint8, kids ...api.ATerm) api.ATerm {
	return node(api.Head{Kind: kind}, rho, kids...)
}

func num(n int64) api.ATerm { return api.ATerm{Head: api.Head{Kind: 1, N: n}} }

func name(s string) api.ATerm { return api.ATerm{Head: api.Head{Kind: 2, Name: s}} }

// local is a name that is bound, its type, and if it is a function of KLetrec, that one, which may be asked for or not.
type local struct {
	name   string
	is     api.RType
	rec    *api.ATerm
	closed bool
}

// ground is what is there where a term grows: names, the inmost ones last, and regions.
type ground struct {
	names []local
	rhos  []int
}

func (g ground) with(l ...local) ground {
	return ground{append(slices.Clone(g.names), l...), g.rhos}
}

func (g ground) among(rhos ...int) ground {
	return ground{g.names, append(slices.Clone(g.rhos), rhos...)}
}

// seen are the names that none hides, but functions that may not be asked for.
func (g ground) seen() []local {
	var l []local
	met := map[string]bool{}
	for _, n := range slices.Backward(g.names) {
		if !met[n.name] && !n.closed {
			l = append(l, n)
		}
		met[n.name] = true
	}
	return l
}

// grower grows terms of which most are right, and has the region that was bound last.
type grower struct {
	*rand.Rand
	last int
}

func grow(g *grower, nodes int) api.ATerm {
	at := ground{rhos: []int{0}}
	t, _ := g.grow(at, g.typ(at, g.Intn(6)), nodes)
	return t
}

func (g *grower) fresh() int {
	g.last += 1 + g.Intn(3)
	return g.last
}

func (g *grower) name() string { return []string{"x", "y", "f", "g"}[g.Intn(4)] }

func (g *grower) exn() string { return []string{"E", "F", "G"}[g.Intn(3)] }

func (g *grower) rho(at ground) int { return at.rhos[g.Intn(len(at.rhos))] }

// eff is an effect of all these, and some more.
func (g *grower) eff(at ground, l ...api.Atom) []api.Atom {
	l = slices.Clone(l)
	for range g.Intn(3) {
		l = append(l, []api.Atom{get(g.rho(at)), put(g.rho(at)), exn(g.exn())}[g.Intn(3)])
	}
	return effect.Of(l...)
}

// typ is a type of about so many nodes.
func (g *grower) typ(at ground, nodes int) api.RType {
	if nodes <= 1 {
		return intType()
	}
	first := g.Intn(nodes)
	switch g.Intn(4) {
	case 0:
		return refType(g.rho(at), g.typ(at, nodes-1))
	case 1:
		return fnType(g.rho(at), g.typ(at, first), g.typ(at, nodes-1-first), g.eff(at)...)
	}
	return pairType(g.rho(at), g.typ(at, first), g.typ(at, nodes-1-first))
}

// known is a type that one of the names has, or another one.
func (g *grower) known(at ground) api.RType {
	if l := at.seen(); len(l) > 0 && g.Intn(3) > 0 {
		if n := l[g.Intn(len(l))]; n.rec == nil {
			return n.is
		}
	}
	return g.typ(at, 1+g.Intn(5))
}

// grow is a term of about so many nodes of a type, and its effect.
func (g *grower) grow(at ground, want api.RType, nodes int) (api.ATerm, []api.Atom) {
	if nodes <= 1 {
		return g.leaf(at, want)
	}
	first := g.Intn(nodes)
	rest := nodes - 1 - first
	switch g.Intn(19) {
	case 0, 1:
		r := g.rho(at)
		kind, y := uint8(4), pairType(r, want, g.known(at))
		if g.Intn(2) == 0 {
			kind, y = 5, pairType(r, g.known(at), want)
		}
		a, e := g.grow(at, y, nodes-1)
		return of(kind, a), effect.Union(e, []api.Atom{get(r)})
	case 2:
		r := g.rho(at)
		a, e := g.grow(at, refType(r, want), nodes-1)
		return of(7, a), effect.Union(e, []api.Atom{get(r)})
	case 3, 4:
		return g.call(at, want, first, rest)
	case 5, 6:
		return g.asked(at, want, nodes)
	case 7, 8:
		return g.let(at, want, first, rest)
	case 9, 10:
		return g.letrec(at, want, first, rest)
	case 11:
		a, d := g.grow(at, intType(), g.Intn(first+1))
		b, e := g.grow(at, want, first/2)
		c, f := g.grow(at, want, rest)
		return of(14, a, b, c), effect.Union(d, e, f)
	case 12:
		return g.raise(at, want, nodes-1)
	case 13, 14:
		h := api.Head{Kind: 16, Exn: g.exn(), Arg: g.name()}
		a, d := g.grow(at, want, first)
		b, e := g.grow(at.with(local{name: h.Arg, is: intType()}), want, rest)
		return node(h, 0, a, b), effect.Union(effect.Handled(d, h.Exn), e)
	case 15, 16:
		r := g.fresh()
		a, e := g.grow(at.among(r), want, nodes-1)
		return in(r, 17, a), effect.Without(e, r)
	}
	return g.made(at, want, first, rest)
}

// raise is a term that raises.
func (g *grower) raise(at ground, want api.RType, nodes int) (api.ATerm, []api.Atom) {
	a, e := g.grow(at, intType(), nodes)
	t := node(api.Head{Kind: 15, Exn: g.exn()}, 0, a)
	t.Type = want
	return t, effect.Union(e, []api.Atom{exn(t.Exn)})
}

// fn is a function, its type, and the effect of making it.
func (g *grower) fn(at ground, arg, want api.RType, nodes int) (api.ATerm, api.RType, []api.Atom) {
	t := node(api.Head{Kind: 11, Arg: g.name()}, g.rho(at))
	a, e := g.grow(at.with(local{name: t.Arg, is: arg}), want, nodes)
	t.Kids, t.Type, t.Eff = []api.ATerm{a}, arg, g.eff(at, e...)
	return t, fnType(t.Rho, arg, want, t.Eff...), []api.Atom{put(t.Rho)}
}

// call is a function that is called.
func (g *grower) call(at ground, want api.RType, first, rest int) (api.ATerm, []api.Atom) {
	arg := g.known(at)
	f, y, d := g.fn(at, arg, want, first)
	for _, n := range at.seen() {
		if n.rec == nil && n.is.Kind == 4 && rtype.Same(n.is.Kids[1], want) {
			f, y, d, arg = name(n.name), n.is, nil, n.is.Kids[0]
		}
	}
	b, e := g.grow(at, arg, rest)
	return of(10, f, b), effect.Union(d, e, y.Eff, []api.Atom{get(y.Rho)})
}

// asked is a function of KLetrec that is called, if there is one.
func (g *grower) asked(at ground, want api.RType, nodes int) (api.ATerm, []api.Atom) {
	l := at.seen()
	for range 4 * len(l) {
		n := l[g.Intn(len(l))]
		if n.rec == nil {
			continue
		}
		f, y := g.inst(at, n)
		if rtype.Same(y.Kids[1], want) {
			b, e := g.grow(at, y.Kids[0], nodes-2)
			return of(10, f, b), effect.Union(e, y.Eff, []api.Atom{get(n.rec.Rho), put(f.Rho), get(f.Rho)})
		}
	}
	return g.grow(at, want, nodes-1)
}

// inst is a function of KLetrec that is told regions, and its type.
func (g *grower) inst(at ground, n local) (api.ATerm, api.RType) {
	f := node(api.Head{Kind: 18, Name: n.name}, g.rho(at))
	for range n.rec.Rhos {
		f.Rhos = append(f.Rhos, g.rho(at))
	}
	y := rtype.Swap(fnType(n.rec.Rho, n.rec.Type, n.rec.Res, n.rec.Eff...), n.rec.Rhos, f.Rhos)
	f.Eff = g.eff(at, y.Eff...)
	y.Rho, y.Eff = f.Rho, f.Eff
	return f, y
}

func (g *grower) let(at ground, want api.RType, first, rest int) (api.ATerm, []api.Atom) {
	t := node(api.Head{Kind: 12, Name: g.name()}, 0)
	is := g.known(at)
	var a api.ATerm
	var d []api.Atom
	if g.Intn(2) == 0 {
		a, is, d = g.fn(at, g.typ(at, 3), is, first)
	} else {
		a, d = g.grow(at, is, first)
	}
	b, e := g.grow(at.with(local{name: t.Name, is: is}), want, rest)
	t.Kids = []api.ATerm{a, b}
	return t, effect.Union(d, e)
}

func (g *grower) letrec(at ground, want api.RType, first, rest int) (api.ATerm, []api.Atom) {
	t := node(api.Head{Kind: 13, Name: g.name(), Arg: g.name()}, g.rho(at))
	for range g.Intn(4) {
		t.Rhos = append(t.Rhos, g.fresh())
	}
	within := at.among(t.Rhos...)
	t.Type, t.Res = g.typ(within, 1+g.Intn(5)), g.typ(within, 1+g.Intn(3))
	// A function that is asked for within itself has all that may happen there; of any other one that comes of it.
	again := g.Intn(2) == 0
	if again {
		for _, r := range within.rhos {
			t.Eff = append(t.Eff, get(r), put(r))
		}
		t.Eff = effect.Of(append(t.Eff, exn("E"), exn("F"), exn("G"))...)
	}
	own := t
	a, e := g.grow(within.with(local{name: t.Name, rec: &own, closed: !again}, local{name: t.Arg, is: t.Type}), t.Res, first)
	if !again {
		t.Eff = g.eff(within, e...)
	}
	made := t
	b, f := g.grow(at.with(local{name: t.Name, rec: &made}), want, rest)
	t.Kids = []api.ATerm{a, b}
	return t, effect.Union(f, []api.Atom{put(t.Rho)})
}

// made is a term whose kind makes what has such a type.
func (g *grower) made(at ground, want api.RType, first, rest int) (api.ATerm, []api.Atom) {
	switch want.Kind {
	case 2:
		a, d := g.grow(at, want.Kids[0], first)
		b, e := g.grow(at, want.Kids[1], rest)
		return in(want.Rho, 3, a, b), effect.Union(d, e, []api.Atom{put(want.Rho)})
	case 3:
		a, e := g.grow(at, want.Kids[0], first+rest)
		return in(want.Rho, 6, a), effect.Union(e, []api.Atom{put(want.Rho)})
	case 4:
		return g.madeFn(at, want, first+rest)
	}
	if g.Intn(3) == 0 {
		other, r := g.known(at), g.rho(at)
		a, d := g.grow(at, refType(r, other), first)
		b, e := g.grow(at, other, rest)
		return of(8, a, b), effect.Union(d, e, []api.Atom{put(r)})
	}
	a, d := g.grow(at, intType(), first)
	b, e := g.grow(at, intType(), rest)
	return node(api.Head{Kind: 9, Op: uint8(1 + g.Intn(5))}, 0, a, b), effect.Union(d, e)
}

// madeFn is a function of a type that tells what may happen: of some that grow one that keeps to it, if there is one.
func (g *grower) madeFn(at ground, want api.RType, nodes int) (api.ATerm, []api.Atom) {
	t := node(api.Head{Kind: 11, Arg: g.name()}, want.Rho)
	t.Type, t.Eff = want.Kids[0], want.Eff
	for n := nodes; n >= 0; n /= 2 {
		a, e := g.grow(at.with(local{name: t.Arg, is: want.Kids[0]}), want.Kids[1], n)
		t.Kids = []api.ATerm{a}
		if effect.Within(e, t.Eff) {
			return t, []api.Atom{put(t.Rho)}
		}
		if n == 0 {
			break
		}
	}
	return g.raise(at, want, 0)
}

// leaf is a short term of a type: a name of it, if there is one.
func (g *grower) leaf(at ground, want api.RType) (api.ATerm, []api.Atom) {
	l := at.seen()
	for range 4 * len(l) {
		n := l[g.Intn(len(l))]
		if n.rec == nil && rtype.Same(n.is, want) {
			return name(n.name), nil
		}
		if n.rec == nil || want.Kind != 4 {
			continue
		}
		f, y := g.inst(at, n)
		f.Rho, f.Eff = want.Rho, want.Eff
		if rtype.Same(y.Kids[0], want.Kids[0]) && rtype.Same(y.Kids[1], want.Kids[1]) {
			return f, []api.Atom{get(n.rec.Rho), put(f.Rho)}
		}
	}
	if want.Kind == 1 {
		return num(g.Int63n(4)), nil
	}
	if g.Intn(6) == 0 {
		return g.raise(at, want, 0)
	}
	return g.made(at, want, 0, 0)
}

// nodesOf are a term's nodes, each ahead of its kids.
func nodesOf(t *api.ATerm) []*api.ATerm {
	l := []*api.ATerm{t}
	for i := range t.Kids {
		l = append(l, nodesOf(&t.Kids[i])...)
	}
	return l
}

// clone is a term that shares no memory with another one.
func clone(t api.ATerm) api.ATerm {
	t.Rhos, t.Eff, t.Type, t.Res = slices.Clone(t.Rhos), slices.Clone(t.Eff), cloneType(t.Type), cloneType(t.Res)
	t.Kids = slices.Clone(t.Kids)
	for i, k := range t.Kids {
		t.Kids[i] = clone(k)
	}
	return t
}

func cloneType(y api.RType) api.RType {
	y.Eff, y.Kids = slices.Clone(y.Eff), slices.Clone(y.Kids)
	for i, k := range y.Kids {
		y.Kids[i] = cloneType(k)
	}
	return y
}

// spoiled is a term of which one node is another one.
func (g *grower) spoiled(t api.ATerm) api.ATerm {
	t = clone(t)
	l := nodesOf(&t)
	x := l[g.Intn(len(l))]
	some := ground{rhos: []int{0, g.Intn(g.last + 2), g.Intn(g.last + 2)}}
	switch g.Intn(14) {
	case 0, 1:
		x.Rho = g.spoiledRho(x.Rho)
	case 2:
		for i := range x.Rhos {
			x.Rhos[i] = g.spoiledRho(x.Rhos[i])
		}
	case 3:
		x.Rhos = append(x.Rhos, g.fresh())
	case 4:
		x.Rhos = x.Rhos[:len(x.Rhos)-min(len(x.Rhos), 1)]
	case 5:
		if n := len(x.Eff); n > 0 {
			x.Eff = slices.Delete(x.Eff, g.Intn(n), n)
		}
	case 6:
		if n := len(x.Eff); n > 0 {
			x.Eff = effect.Without(x.Eff, x.Eff[g.Intn(n)].Rho)
		}
	case 7:
		if x.Kind == 11 || x.Kind == 13 || x.Kind == 18 {
			x.Eff = g.eff(some, x.Eff...)
		}
	case 8:
		g.spoilType(some, &x.Type)
	case 9:
		g.spoilType(some, &x.Res)
	case 10:
		g.spoilHead(x)
	case 11:
		*x = []api.ATerm{num(1), name(g.name()), in(g.spoiledRho(0), 3, *x, num(1)), in(g.fresh(), 17, *x), of(uint8(4+g.Intn(4)), *x)}[g.Intn(5)]
	case 12:
		slices.Reverse(x.Kids)
	case 13:
		*x = clone(*l[g.Intn(len(l))])
	}
	return t
}

// spoiledRho is a region, mostly one that there is.
func (g *grower) spoiledRho(r int) int {
	return []int{0, r + 1, max(r-1, 0), g.Intn(g.last + 2)}[g.Intn(4)]
}

func (g *grower) spoilType(at ground, y *api.RType) {
	switch {
	case y.Kind == 0:
	case g.Intn(2) == 0:
		*y = g.typ(at, g.Intn(5))
	case len(y.Kids) > 0 && g.Intn(2) == 0:
		g.spoilType(at, &y.Kids[g.Intn(len(y.Kids))])
	case y.Kind == 4 && g.Intn(2) == 0:
		y.Eff = g.eff(at, y.Eff[:g.Intn(len(y.Eff)+1)]...)
	case y.Kind > 1:
		y.Rho = g.rho(at)
	}
}

// spoilHead gives a node another name, or another kind that may have the same fields.
func (g *grower) spoilHead(x *api.ATerm) {
	alike := [][]uint8{{4, 5, 7}, {3}, {8, 10}, {2, 18}}
	for _, kinds := range alike {
		if slices.Contains(kinds, x.Kind) && g.Intn(2) == 0 {
			x.Kind = kinds[g.Intn(len(kinds))]
		}
	}
	if x.Name != "" && g.Intn(2) == 0 {
		x.Name = g.name()
	}
	if x.Arg != "" && g.Intn(2) == 0 {
		x.Arg = g.name()
	}
	if x.Exn != "" {
		x.Exn = g.exn()
	}
}
