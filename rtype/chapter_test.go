package rtype_test

import (
	"fmt"
	"regexp"
	"slices"
	"sort"
	"strconv"
	"strings"

	"enclave/api"
	"enclave/effect"
)

// What chapters 8 and 12 say of kinds, fields and texts, word for word: what the tests ask comes of this, not of the program's own reading of it.
const (
	kindsTold  = `TyInt (1): none; TyPair (2): 2; TyRef (3): 1; TyFn (4): 2, of what it takes, and of what it answers; TyVar (5): none, but a number`
	butNoTold  = `but no variables`
	fieldsTold = `of TyPair, TyRef and TyFn its Rho is a region, a number from 0 on; of TyFn its Eff is an effect (11)`
	textsTold  = `int; ( A * B @ r ); ( ref A @ r ); ( A -> B ! E @ r )`
	rhosTold   = `the Rhos of all its nodes, and the regions of their Effs, but those of TyInt nodes`
)

// kindRow is what the chapters tell of a kind.
type kindRow struct {
	name     string
	kind     uint8
	kids     int
	rho, eff bool     // whether it has such a field
	words    []string // with A and B for its kids, E for its effect, r for its region
}

// kindRows are all kinds.
var kindRows = readKinds()

func readKinds() []kindRow {
	var rows []kindRow
	rho, eff, _ := strings.Cut(fieldsTold, ";")
	texts := strings.Split(textsTold, "; ")
	for i, part := range strings.Split(kindsTold, "; ") {
		m := regexp.MustCompile(`^(Ty\w+) \((\d)\): (none|\d)`).FindStringSubmatch(part)
		if m[1] == "TyVar" && butNoTold == "but no variables" {
			continue
		}
		kind, _ := strconv.Atoi(m[2])
		kids, _ := strconv.Atoi(m[3]) // of none 0
		rows = append(rows, kindRow{m[1], uint8(kind), kids, strings.Contains(rho, m[1]), strings.Contains(eff, m[1]), strings.Fields(texts[i])})
	}
	return rows
}

// rowOf is the row of a kind, and whether there is one.
func rowOf(kind uint8) (kindRow, bool) {
	i := slices.IndexFunc(kindRows, func(r kindRow) bool { return r.kind == kind })
	if i < 0 {
		return kindRow{}, false
	}
	return kindRows[i], true
}

// without tells whether no region of a node counts.
func without(kind uint8) bool {
	r, is := rowOf(kind)
	return is && strings.HasSuffix(rhosTold, "but those of "+r.name+" nodes")
}

// nodes are the nodes of types, each ahead of its kids, in order.
func nodes(l ...api.RType) []api.RType {
	var found []api.RType
	for stack := [][]api.RType{l}; len(stack) > 0; {
		top := &stack[len(stack)-1]
		if len(*top) == 0 {
			stack = stack[:len(stack)-1]
			continue
		}
		t := (*top)[0]
		*top = (*top)[1:]
		found = append(found, t)
		stack = append(stack, t.Kids)
	}
	return found
}

// mayOf, rhosOf, swapOf, bareOf and textOf are what the calls are to answer; textOf of a type that may be.
func mayOf(l ...api.RType) bool {
	for _, x := range nodes(l...) {
		r, is := rowOf(x.Kind)
		switch {
		case !is || len(x.Kids) != r.kids:
			return false
		case x.Rho < 0 || x.Rho > 0 && !r.rho:
			return false
		case !effect.May(x.Eff) || len(x.Eff) > 0 && !r.eff:
			return false
		}
	}
	return true
}

func rhosOf(l ...api.RType) []int {
	met := map[int]bool{}
	for _, x := range nodes(l...) {
		if without(x.Kind) {
			continue
		}
		met[x.Rho] = true
		for _, a := range x.Eff {
			if effect.Atom(a) && a.Kind != 3 {
				met[a.Rho] = true
			}
		}
	}
	var rhos []int
	for r := range met {
		rhos = append(rhos, r)
	}
	sort.Ints(rhos)
	return rhos
}

func swapOf(t api.RType, from, to []int) api.RType {
	instead := map[int]int{}
	for i := len(from) - 1; i >= 0; i-- { // the first one is written last
		delete(instead, from[i])
		if i < len(to) {
			instead[from[i]] = to[i]
		}
	}
	own := clone(t)
	for row := []*api.RType{&own}; len(row) > 0; {
		x := row[0]
		row = row[1:]
		for i := range x.Kids {
			row = append(row, &x.Kids[i])
		}
		if without(x.Kind) {
			continue
		}
		if other, is := instead[x.Rho]; is {
			x.Rho = other
		}
		x.Eff = effect.Of(x.Eff...)
		for i, a := range x.Eff {
			if other, is := instead[a.Rho]; is && a.Kind != 3 {
				x.Eff[i].Rho = other
			}
		}
		x.Eff = effect.Of(x.Eff...)
	}
	return own
}

func bareOf(t api.RType) api.Type {
	bare := api.Type{Kind: t.Kind}
	for _, k := range t.Kids {
		bare.Kids = append(bare.Kids, bareOf(k))
	}
	return bare
}

func textOf(t api.RType) string {
	r, _ := rowOf(t.Kind)
	var words []string
	for _, w := range r.words {
		switch w {
		case "A":
			w = textOf(t.Kids[0])
		case "B":
			w = textOf(t.Kids[1])
		case "E":
			w = effect.Text(t.Eff)
		case "r":
			w = strconv.FormatUint(uint64(t.Rho), 10)
		}
		words = append(words, w)
	}
	return strings.Join(words, " ")
}

// clone is a type that shares no memory with another one.
func clone(t api.RType) api.RType {
	kids := t.Kids
	t.Kids, t.Eff = nil, append([]api.Atom(nil), t.Eff...)
	for _, k := range kids {
		t.Kids = append(t.Kids, clone(k))
	}
	return t
}

// whole is all by which a type is told from others, as a text: two are the same, if their wholes are.
func whole(t api.RType) string {
	var b strings.Builder
	write(&b, t, func(e []api.Atom) string { return effect.Text(e) })
	return b.String()
}

// exactly is all that there is of a type, the atoms one by one.
func exactly(t api.RType) string {
	var b strings.Builder
	write(&b, t, func(e []api.Atom) string { return fmt.Sprint(len(e), e) })
	return b.String()
}

func write(b *strings.Builder, t api.RType, eff func(e []api.Atom) string) {
	fmt.Fprintf(b, "[%d %d %s", t.Kind, t.Rho, eff(t.Eff))
	for _, k := range t.Kids {
		b.WriteString(" ")
		write(b, k, eff)
	}
	b.WriteString("]")
}

// plainly is all that there is of a type without regions.
func plainly(t api.Type) string {
	var b strings.Builder
	writePlain(&b, t)
	return b.String()
}

func writePlain(b *strings.Builder, t api.Type) {
	fmt.Fprintf(b, "[%d %d", t.Kind, t.Var)
	for _, k := range t.Kids {
		writePlain(b, k)
	}
	b.WriteString("]")
}
