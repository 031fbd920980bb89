package check_test

import (
	"math/rand"
	"slices"
	"strings"
	"testing"

	"enclave/api"
	"enclave/aterm"
	"enclave/check"
	"enclave/effect"
	"enclave/rtype"
	"enclave/simple"
	"enclave/types"
)

// choices are what may stand in the fields of a kind's nodes.
type choices struct {
	names, args []string
	rho         []int
	rhos        [][]int
	eff         [][]api.Atom
	types, res  []api.RType
}

// few are choices of a kind, such that all small terms of them may be gone through.
func few(kind uint8) choices {
	none := choices{[]string{""}, []string{""}, []int{0}, [][]int{nil}, [][]api.Atom{nil}, []api.RType{{}}, []api.RType{{}}}
	ref := func(r int) api.RType { return refType(r, intType()) }
	c := none
	switch rowOf(kind).name {
	case "KVar":
		c.names = []string{"x", "f"}
	case "KPair", "KRef":
		c.rho = []int{0, 1}
	case "KFn":
		c.args, c.rho = []string{"x"}, []int{0, 1}
		c.eff = [][]api.Atom{nil, {put(0)}, {get(0), put(1), exn("E")}}
		c.types = []api.RType{intType(), ref(1)}
	case "KLet":
		c.names = []string{"x"}
	case "KLetrec":
		c.names, c.args, c.rhos = []string{"f"}, []string{"x"}, [][]int{nil, {1}}
		c.eff = [][]api.Atom{nil, {get(1), exn("E")}}
		c.types, c.res = []api.RType{intType(), ref(1)}, []api.RType{intType()}
	case "KRaise":
		c.types = []api.RType{intType(), ref(0), ref(1)}
	case "KTry":
		c.args = []string{"x"}
	case "KRegion":
		c.rho = []int{1, 2}
	case "KInst":
		c.names, c.rho = []string{"f"}, []int{0, 1}
		c.rhos = [][]int{nil, {0}, {1}}
		c.eff = [][]api.Atom{nil, {get(0), exn("E")}}
	}
	return c
}

// nodes are all nodes of a kind of these, without kids.
func (c choices) nodes(kind uint8) []api.ATerm {
	t := api.ATerm{Head: api.Head{Kind: kind}}
	if kind == 9 {
		t.Op = 3
	}
	if kind == 15 || kind == 16 {
		t.Exn = "E"
	}
	l := []api.ATerm{t}
	l = spread(l, c.names, func(x *api.ATerm, s string) { x.Name = s })
	l = spread(l, c.args, func(x *api.ATerm, s string) { x.Arg = s })
	l = spread(l, c.rho, func(x *api.ATerm, r int) { x.Rho = r })
	l = spread(l, c.rhos, func(x *api.ATerm, r []int) { x.Rhos = r })
	l = spread(l, c.eff, func(x *api.ATerm, e []api.Atom) { x.Eff = e })
	l = spread(l, c.types, func(x *api.ATerm, y api.RType) { x.Type = y })
	return spread(l, c.res, func(x *api.ATerm, y api.RType) { x.Res = y })
}

// spread are terms with each of the choices in a field.
func spread[T any](l []api.ATerm, choices []T, set func(x *api.ATerm, c T)) []api.ATerm {
	var more []api.ATerm
	for _, x := range l {
		for _, c := range choices {
			set(&x, c)
			more = append(more, x)
		}
	}
	return more
}

// smallTerms are all terms of these kinds, by how many nodes they have.
func smallTerms(most int, kinds ...string) [][]api.ATerm {
	all := [][]api.ATerm{nil}
	for n := 1; n <= most; n++ {
		var l []api.ATerm
		for _, r := range kindRows {
			if len(kinds) > 0 && !slices.Contains(kinds, r.name) {
				continue
			}
			for _, x := range few(r.kind).nodes(r.kind) {
				for _, kids := range kidsOf(all, r.kids, n-1) {
					x.Kids = kids
					l = append(l, x)
				}
			}
		}
		all = append(all, l)
	}
	return all
}

// kidsOf are all rows of so many kids with so many nodes together.
func kidsOf(all [][]api.ATerm, kids, nodes int) [][]api.ATerm {
	if kids == 0 {
		if nodes == 0 {
			return [][]api.ATerm{nil}
		}
		return nil
	}
	var l [][]api.ATerm
	for n := 1; n <= nodes && n < len(all); n++ {
		rest := kidsOf(all, kids-1, nodes-n)
		for _, first := range all[n] {
			for _, r := range rest {
				l = append(l, append([]api.ATerm{first}, r...))
			}
		}
	}
	return l
}

// scatter gives each node a place of its own, such that they don't grow in the order of nodes.
func scatter(t api.ATerm, next *int) api.ATerm {
	t.At = 1 + (*next*1549+777)%4001
	*next++
	kids := t.Kids
	t.Kids = nil
	for _, k := range kids {
		t.Kids = append(t.Kids, scatter(k, next))
	}
	return t
}

// scattered is a term whose nodes stand all about.
func scattered(t api.ATerm) api.ATerm { return scatter(t, new(int)) }

// counts are how many terms there were with each error.
type counts map[api.Errno]int

// meet holds a term whose nodes stand all about, and counts it.
func (c counts) meet(t *testing.T, x api.ATerm) {
	t.Helper()
	c[holds(t, scattered(x))]++
}

func TestSmallTerms(t *testing.T) {
	for _, kinds := range []struct {
		most  int
		names string
	}{
		{3, ""},
		{4, "KNum KVar KPair KFst KRef KGet KSet KFn KLet KRaise KTry KRegion"},
		{4, "KNum KVar KRef KGet KOp KApp KFn KIf KRaise KTry KRegion"},
		{4, "KNum KVar KGet KLetrec KInst KRegion KApp"},
		{5, "KNum KVar KLetrec KInst"},
		{6, "KNum KVar KRef KGet KLet KRegion"},
	} {
		c := counts{}
		for _, l := range smallTerms(kinds.most, strings.Fields(kinds.names)...) {
			for _, x := range l {
				c.meet(t, x)
			}
		}
		t.Log(kinds.most, kinds.names, c)
	}
}

// TestGrownTerms has terms that grow such that most are right, and such of which one node, or some, aren't as they were.
func TestGrownTerms(t *testing.T) {
	c, spoiled := counts{}, counts{}
	for seed := range int64(4000) {
		g := &grower{Rand: rand.New(rand.NewSource(seed))}
		x := grow(g, 1+g.Intn(40))
		if aterm.Size(x) > 2000 {
			continue
		}
		c.meet(t, x)
		isTypable(t, x)
		for range 4 {
			worse := g.spoiled(x)
			spoiled.meet(t, worse)
			isTypable(t, worse)
			spoiled.meet(t, g.spoiled(worse))
		}
	}
	t.Log(c, spoiled)
}

// isTypable holds that a right term without regions fits by chapter 10, which asks for less.
func isTypable(t *testing.T, x api.ATerm) {
	t.Helper()
	y, _, _, e := check.Check(x)
	if e != api.OK {
		return
	}
	plain, _, e := simple.Check(aterm.Erase(x))
	if e == api.OK && (types.Size(plain.Type) > types.Size(rtype.Bare(y))) || e == api.ErrType || e == api.ErrScope {
		t.Fatalf("P15.1: it is right, but not typable: %.600s", shown(x))
	}
}

// TestOtherNumbers has terms whose regions have other numbers: what they have stays, as the region 0 alone is left.
func TestOtherNumbers(t *testing.T) {
	for seed := range int64(1500) {
		g := &grower{Rand: rand.New(rand.NewSource(-1 - seed))}
		x := grow(g, 1+g.Intn(40))
		if g.Intn(2) == 0 {
			x = g.spoiled(x)
		}
		y, may, at, e := check.Check(x)
		from, to := []int{}, []int{}
		for i, r := range g.Perm(g.last + 4) {
			if i > 0 {
				from, to = append(from, i), append(to, 1000003*(r+1))
			}
		}
		z, still, otherAt, otherE := check.Check(renumbered(x, from, to))
		if e == api.ErrArg { // of a spoiled term
			continue
		}
		if typeText(y) != typeText(z) || !effect.Same(may, still) || at != otherAt || e != otherE {
			t.Fatalf("P15.1: with other numbers another answer: %.600s", shown(x))
		}
	}
}

// renumbered is a term with other regions.
func renumbered(t api.ATerm, from, to []int) api.ATerm {
	t.Type, t.Res, t.Eff = rtype.Swap(t.Type, from, to), rtype.Swap(t.Res, from, to), effect.Swap(t.Eff, from, to)
	other := func(r int) int {
		if i := slices.Index(from, r); i >= 0 {
			return to[i]
		}
		return r
	}
	t.Rho = other(t.Rho)
	t.Rhos = slices.Clone(t.Rhos)
	for i, r := range t.Rhos {
		t.Rhos[i] = other(r)
	}
	t.Kids = slices.Clone(t.Kids)
	for i, k := range t.Kids {
		t.Kids[i] = renumbered(k, from, to)
	}
	return t
}
