package aterm_test

import (
	"fmt"
	"reflect"
	"regexp"
	"slices"
	"strconv"
	"strings"

	"enclave/api"
	"enclave/effect"
	"enclave/rtype"
	"enclave/words"
)

// What chapters 4 and 13 say of kinds, fields and kids, word for word: what the tests ask comes of this, not of the program's own reading of it.
const (
	headsTold = `
| KNum (1) | 5 | N | none |
| KVar (2) | x | Name | none |
| KPair (3) | ( a , b ) | | 2 |
| KFst (4), KSnd (5) | fst a, snd a | | 1 |
| KRef (6), KGet (7) | ref a, ! a | | 1 |
| KSet (8) | a := b | | 2 |
| KOp (9) | a + b, - * < = | Op (OpAdd 1, OpSub 2, OpMul 3, OpLess 4, OpSame 5) | 2 |
| KApp (10) | a b | | 2 |
| KFn (11) | fn x => a | Arg | 1 |
| KLet (12) | let x = a in b | Name | 2 |
| KLetrec (13) | letrec f x = a in b | Name, Arg | 2 |
| KIf (14) | if a then b else c | | 3 |
| KRaise (15) | raise E a | Exn | 1 |
| KTry (16) | try a with E x => b | Exn, Arg | 2 |
`
	newKindsTold = `of the Kind KRegion (17): one kid; of KInst (18): Name, and no kids`
	fieldsTold   = `
| KPair, KRef | ( a , b @ r ), ( ref a @ r ) | Rho |
| KFn | ( fn x : T ! E => a @ r ) | Rho, Eff, Type (of Arg) |
| KLetrec | ( letrec f [ rs ] x : T -> U ! E = a @ r in b ) | Rho, Rhos, Eff, Type (of Arg), Res (of a) |
| KRaise | ( raise E a : T ) | Type |
| KRegion | ( region r in a ) | Rho |
| KInst | ( f [ rs ] ! E @ r ) | Rho, Rhos, Eff |
`
	regionsTold = `Rho is from 0 on, of KRegion from 1 on; Rhos are from 0 on; those of KLetrec from 1 on, and none of them twice`
	bindsTold   = `KRegion its Rho, KLetrec its Rhos`
	mostTold    = `at most MaxATerm (40000) nodes`
)

// kindRow is what the chapters tell of a kind.
type kindRow struct {
	name   string
	kind   uint8
	kids   int
	fields []string // those that it has

	leastRho, leastRhos int  // the least region that it may have there
	once                bool // none of its Rhos may stand there twice
	bindsRho, bindsRhos bool
}

// kindRows are all kinds.
var kindRows = readKinds()

func readKinds() []kindRow {
	var rows []kindRow
	named := regexp.MustCompile(`(K\w+) \((\d+)\)`)
	for _, line := range strings.Split(strings.TrimSpace(headsTold), "\n") {
		cells := strings.Split(line, "|")
		n := len(cells)
		kids, _ := strconv.Atoi(strings.TrimSpace(cells[n-2])) // of none 0
		for _, m := range named.FindAllStringSubmatch(cells[1], -1) {
			kind, _ := strconv.Atoi(m[2])
			rows = append(rows, kindRow{name: m[1], kind: uint8(kind), kids: kids, fields: fieldNames(cells[n-3])})
		}
	}
	for _, part := range strings.Split(newKindsTold, "; ") {
		m := named.FindStringSubmatch(part)
		kind, _ := strconv.Atoi(m[2])
		row := kindRow{name: m[1], kind: uint8(kind)}
		if strings.Contains(part, "one kid") {
			row.kids = 1
		}
		_, behind, _ := strings.Cut(part, ":")
		row.fields = fieldNames(behind)
		rows = append(rows, row)
	}
	for _, line := range strings.Split(strings.TrimSpace(fieldsTold), "\n") {
		cells := strings.Split(line, "|")
		for _, name := range strings.Split(cells[1], ",") {
			i := slices.IndexFunc(rows, func(r kindRow) bool { return r.name == strings.TrimSpace(name) })
			rows[i].fields = append(rows[i].fields, fieldNames(cells[len(cells)-2])...)
		}
	}
	for i := range rows {
		readRegions(&rows[i])
	}
	return rows
}

// readRegions reads what the sentences on regions tell of a kind.
func readRegions(r *kindRow) {
	for _, part := range strings.FieldsFunc(regionsTold, func(c rune) bool { return c == ';' || c == ',' }) {
		switch strings.TrimSpace(part) {
		case "of " + r.name + " from 1 on":
			r.leastRho = 1
		case "those of " + r.name + " from 1 on":
			r.leastRhos = 1
		}
	}
	r.once = strings.HasSuffix(regionsTold, "those of "+r.name+" from 1 on, and none of them twice")
	r.bindsRho = slices.Contains(strings.Split(bindsTold, ", "), r.name+" its Rho")
	r.bindsRhos = slices.Contains(strings.Split(bindsTold, ", "), r.name+" its Rhos")
}

// fieldNames are the fields that a cell of a table tells; what stands in brackets tells of them.
func fieldNames(cell string) []string {
	cell = regexp.MustCompile(`\([^)]*\)`).ReplaceAllString(cell, "")
	return regexp.MustCompile(`\b(N|Op|Name|Arg|Exn|Rho|Rhos|Eff|Type|Res)\b`).FindAllString(cell, -1)
}

// rowOf is the row of a kind, and whether there is one.
func rowOf(kind uint8) (kindRow, bool) {
	for _, r := range kindRows {
		if r.kind == kind {
			return r, true
		}
	}
	return kindRow{}, false
}

func (r kindRow) has(field string) bool { return slices.Contains(r.fields, field) }

// field is one that a term may have besides its Kind, its place and its kids: whether it is zero, or none, and whether it may be what it is.
type field struct {
	name string
	zero func(x api.ATerm) bool
	may  func(r kindRow, x api.ATerm) bool
}

// fields are all of them.
var fields = []field{
	{"N", func(x api.ATerm) bool { return x.N == 0 }, func(r kindRow, x api.ATerm) bool { return x.N >= 0 && x.N <= 2147483647 }},
	{"Op", func(x api.ATerm) bool { return x.Op == 0 }, func(r kindRow, x api.ATerm) bool { return x.Op >= 1 && x.Op <= 5 }},
	{"Name", func(x api.ATerm) bool { return x.Name == "" }, func(r kindRow, x api.ATerm) bool { return words.Name(x.Name) }},
	{"Arg", func(x api.ATerm) bool { return x.Arg == "" }, func(r kindRow, x api.ATerm) bool { return words.Name(x.Arg) }},
	{"Exn", func(x api.ATerm) bool { return x.Exn == "" }, func(r kindRow, x api.ATerm) bool { return words.Exn(x.Exn) }},
	{"Rho", func(x api.ATerm) bool { return x.Rho == 0 }, func(r kindRow, x api.ATerm) bool { return x.Rho >= r.leastRho }},
	{"Rhos", func(x api.ATerm) bool { return len(x.Rhos) == 0 }, func(r kindRow, x api.ATerm) bool { return rhosMay(r, x.Rhos) }},
	{"Eff", func(x api.ATerm) bool { return len(x.Eff) == 0 }, func(r kindRow, x api.ATerm) bool { return effect.May(x.Eff) }},
	{"Type", func(x api.ATerm) bool { return zeroType(x.Type) }, func(r kindRow, x api.ATerm) bool { return rtype.May(x.Type) }},
	{"Res", func(x api.ATerm) bool { return zeroType(x.Res) }, func(r kindRow, x api.ATerm) bool { return rtype.May(x.Res) }},
}

func rhosMay(r kindRow, rhos []int) bool {
	sorted := slices.Clone(rhos)
	slices.Sort(sorted)
	for i, rho := range sorted {
		if rho < r.leastRhos || r.once && i > 0 && rho == sorted[i-1] {
			return false
		}
	}
	return true
}

func zeroType(x api.RType) bool {
	return len(x.Eff) == 0 && len(x.Kids) == 0 && reflect.DeepEqual(x, api.RType{Eff: x.Eff, Kids: x.Kids})
}

// nodes are the nodes of terms, each ahead of its kids, in order.
func nodes(l ...api.ATerm) []*api.ATerm {
	var found []*api.ATerm
	for stack := [][]api.ATerm{l}; len(stack) > 0; {
		top := &stack[len(stack)-1]
		if len(*top) == 0 {
			stack = stack[:len(stack)-1]
			continue
		}
		t := &(*top)[0]
		*top = (*top)[1:]
		found = append(found, t)
		stack = append(stack, t.Kids)
	}
	return found
}

// most is how many nodes a term may have.
var most, _ = strconv.Atoi(regexp.MustCompile(`\d+`).FindString(mostTold))

// mayOf, bindsOf, apartOf and eraseOf are what the calls are to answer.
func mayOf(t api.ATerm) bool {
	l := nodes(t)
	for _, x := range l {
		r, is := rowOf(x.Kind)
		if !is || len(x.Kids) != r.kids || x.At < 0 {
			return false
		}
		for _, f := range fields {
			if r.has(f.name) && !f.may(r, *x) || !r.has(f.name) && !f.zero(*x) {
				return false
			}
		}
	}
	return len(l) <= most
}

// placed is a region that is bound, and the place of the node that binds it.
type placed struct{ rho, at int }

func placedOf(l ...api.ATerm) []placed {
	var found []placed
	for _, x := range nodes(l...) {
		r, _ := rowOf(x.Kind)
		if r.bindsRho {
			found = append(found, placed{x.Rho, x.At})
		}
		if r.bindsRhos {
			for _, rho := range x.Rhos {
				found = append(found, placed{rho, x.At})
			}
		}
	}
	return found
}

func bindsOf(l ...api.ATerm) []int {
	var rhos []int
	for _, p := range placedOf(l...) {
		rhos = append(rhos, p.rho)
	}
	return rhos
}

func apartOf(t api.ATerm) (int, bool) {
	l := placedOf(t)
	slices.Reverse(l) // the first one that was bound ahead is the last one met
	at, apart := 0, true
	left := map[int]int{}
	for _, p := range l {
		left[p.rho]++
	}
	for _, p := range l {
		if left[p.rho]--; left[p.rho] > 0 {
			at, apart = p.at, false
		}
	}
	return at, apart
}

func eraseOf(t api.ATerm) api.Term {
	var own api.Term
	type pair struct {
		from api.ATerm
		to   *api.Term
	}
	for row := []pair{{t, &own}}; len(row) > 0; {
		p := row[len(row)-1]
		row = row[:len(row)-1]
		for p.from.Kind == 17 && len(p.from.Kids) != 0 {
			p.from = p.from.Kids[0]
		}
		p.to.Head = p.from.Head
		if p.from.Kind == 18 {
			p.to.Kind = 2
		}
		p.to.Kids = make([]api.Term, len(p.from.Kids))
		for i, k := range p.from.Kids {
			row = append(row, pair{k, &p.to.Kids[i]})
		}
	}
	return own
}

// clone is a term that shares no memory with another one.
func clone(t api.ATerm) api.ATerm {
	kids := t.Kids
	t.Kids, t.Rhos, t.Eff, t.Type, t.Res = nil, append([]int(nil), t.Rhos...), append([]api.Atom(nil), t.Eff...), cloneType(t.Type), cloneType(t.Res)
	for _, k := range kids {
		t.Kids = append(t.Kids, clone(k))
	}
	return t
}

func cloneType(t api.RType) api.RType {
	kids := t.Kids
	t.Kids, t.Eff = nil, append([]api.Atom(nil), t.Eff...)
	for _, k := range kids {
		t.Kids = append(t.Kids, cloneType(k))
	}
	return t
}

// whole is all by which a term is told from others, as a text: two are the same, if their wholes are.
func whole(t api.ATerm) string {
	var b strings.Builder
	write(&b, t, effect.Text)
	return b.String()
}

// exactly is all that there is of a term, the atoms one by one.
func exactly(t api.ATerm) string {
	var b strings.Builder
	write(&b, t, oneByOne)
	return b.String()
}

func oneByOne(e []api.Atom) string {
	s := strconv.Itoa(len(e))
	for _, a := range e {
		s += fmt.Sprintf(" %d %d %q", a.Kind, a.Rho, a.Exn)
	}
	return s
}

func write(b *strings.Builder, t api.ATerm, eff func(e []api.Atom) string) {
	fmt.Fprintf(b, "[%d %d %d %d %q %q %q %d %d %s ", t.Kind, t.Op, t.At, t.N, t.Name, t.Arg, t.Exn, t.Rho, t.Rhos, eff(t.Eff))
	writeType(b, t.Type, eff)
	writeType(b, t.Res, eff)
	for _, k := range t.Kids {
		write(b, k, eff)
	}
	b.WriteString("]")
}

func writeType(b *strings.Builder, t api.RType, eff func(e []api.Atom) string) {
	fmt.Fprintf(b, "<%d %d %s", t.Kind, t.Rho, eff(t.Eff))
	for _, k := range t.Kids {
		writeType(b, k, eff)
	}
	b.WriteString(">")
}

// plainly is all that there is of a term without regions.
func plainly(t api.Term) string {
	var b strings.Builder
	writePlain(&b, t)
	return b.String()
}

func writePlain(b *strings.Builder, t api.Term) {
	fmt.Fprintf(b, "[%d %d %d %d %q %q %q", t.Kind, t.Op, t.At, t.N, t.Name, t.Arg, t.Exn)
	for _, k := range t.Kids {
		writePlain(b, k)
	}
	b.WriteString("]")
}
