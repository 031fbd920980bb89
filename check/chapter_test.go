package check_test

import (
	"fmt"
	"regexp"
	"slices"
	"strconv"
	"strings"

	"enclave/api"
	"enclave/aterm"
)

// What the chapters say, word for word: what the tests ask comes of this, not of the program's own reading of it.
const (
	// tableTold is chapter 15's table.
	tableTold = `
| KNum | int | | |
| KVar | its name's | | |
| KInst | with r1 and so on, its Rhos, in place of its function's Rhos: a function from its Type to its Res, at Rho, whose effect is Eff | so swapped, its function's Eff is within Eff | get of its function's Rho, put of Rho |
| KPair | of pairs of A and B, at Rho | | put of Rho |
| KFst, KSnd | of A's first, second, part | A is of pairs | get of A's Rho |
| KRef | of references to A, at Rho | | put of Rho |
| KGet | what A refers to | A is of references | get of A's Rho |
| KSet | int | A is of references to B | put of A's Rho |
| KOp | int | A and B are int | |
| KApp | what A answers | A is of functions that take B | get of A's Rho, and A's Eff |
| KFn | of functions from Type to A, at Rho, whose effect is Eff | A's effect is within Eff | put of Rho; not A's effect |
| KLet | B | | |
| KLetrec | B | A is Res; A's effect is within Eff | put of Rho; not A's effect |
| KIf | B | A is int; B and C are the same | |
| KRaise | Type | A is int | exn of Exn |
| KTry | A | A and B are the same | of A's effect not exn of Exn |
| KRegion | A | Rho isn't one of A's regions | of A's effect no get and put of Rho |
`
	// kindsTold are chapter 4's and chapter 13's numbers of kinds, with how many kids each has.
	kindsTold = `KNum 1 0, KVar 2 0, KPair 3 2, KFst 4 1, KSnd 5 1, KRef 6 1, KGet 7 1, KSet 8 2, KOp 9 2, KApp 10 2, KFn 11 1, KLet 12 2, KLetrec 13 2, KIf 14 3, KRaise 15 1, KTry 16 2, KRegion 17 1, KInst 18 0`
	// mostTold is chapter 15's.
	mostTold = `if its type has more than MaxType (500) nodes`
)

// kindRow is what the chapters tell of a kind.
type kindRow struct {
	name  string
	kind  uint8
	kids  int
	typ   string
	holds []string // as "A is int"
	more  []string // as "put of Rho"
}

// kindRows are all kinds.
var kindRows = readKinds()

// most is how many nodes a type may have.
var most, _ = strconv.Atoi(regexp.MustCompile(`\d+`).FindString(mostTold))

func readKinds() []kindRow {
	var rows []kindRow
	for _, s := range strings.Split(kindsTold, ", ") {
		var r kindRow
		fmt.Sscanf(s, "%s %d %d", &r.name, &r.kind, &r.kids)
		rows = append(rows, r)
	}
	for _, line := range strings.Split(strings.TrimSpace(tableTold), "\n") {
		cells := strings.Split(strings.Trim(line, "|"), "|")
		for i, name := range strings.Split(strings.TrimSpace(cells[0]), ", ") {
			r := &rows[slices.IndexFunc(rows, func(r kindRow) bool { return r.name == name })]
			// Of KFst and KSnd each has its own.
			r.typ = strings.Replace(strings.TrimSpace(cells[1]), "first, second,", []string{"first", "second"}[i], 1)
			r.holds = sentences(cells[2], "; ")
			r.more = sentences(strings.ReplaceAll(cells[3], "; ", ", "), ", ")
		}
	}
	return rows
}

func sentences(cell, between string) []string {
	if cell = strings.TrimSpace(cell); cell == "" {
		return nil
	}
	return strings.Split(cell, between)
}

// rowOf is the row of a kind.
func rowOf(kind uint8) kindRow {
	return kindRows[slices.IndexFunc(kindRows, func(r kindRow) bool { return r.kind == kind })]
}

// set is an effect.
type set map[api.Atom]bool

func setOf(l ...api.Atom) set {
	s := set{}
	for _, a := range l {
		s[a] = true
	}
	return s
}

// within tells whether all of s are of o.
func (s set) within(o set) bool {
	for a := range s {
		if !o[a] {
			return false
		}
	}
	return true
}

// text is all that there is of an effect.
func (s set) text() string {
	var l []string
	for a := range s {
		l = append(l, fmt.Sprintf("%d %20d %s", a.Kind, a.Rho, a.Exn))
	}
	slices.Sort(l)
	return strings.Join(l, ", ")
}

// typeText is all that there is of a type.
func typeText(t api.RType) string {
	var b strings.Builder
	writeType(&b, t)
	return b.String()
}

func writeType(b *strings.Builder, t api.RType) {
	fmt.Fprintf(b, "<%d %d %s", t.Kind, t.Rho, setOf(t.Eff...).text())
	for _, k := range t.Kids {
		writeType(b, k)
	}
	b.WriteString(">")
}

// typeNodes are a type's nodes.
func typeNodes(t api.RType) []api.RType {
	var l []api.RType
	for row := []api.RType{t}; len(row) > 0; {
		last := row[len(row)-1]
		l = append(l, last)
		row = append(row[:len(row)-1], last.Kids...)
	}
	return l
}

// typeRhos are the regions of a type: "the Rhos of all its nodes, and the regions of their Effs, but those of TyInt nodes".
func typeRhos(t api.RType) []int {
	var l []int
	for _, n := range typeNodes(t) {
		if n.Kind > 1 {
			l = append(append(l, n.Rho), effRhos(n.Eff)...)
		}
	}
	return l
}

// effRhos are the regions of an effect.
func effRhos(e []api.Atom) []int {
	var l []int
	for _, a := range e {
		if a.Kind != 3 {
			l = append(l, a.Rho)
		}
	}
	return l
}

// swapped is a type with other regions, all at a time.
func swapped(t api.RType, other map[int]int) api.RType {
	own := api.RType{Kind: t.Kind, Rho: swappedRho(t.Rho, other)}
	if t.Kind == 1 {
		own.Rho = t.Rho
	}
	own.Eff = swappedEff(t.Eff, other)
	for _, k := range t.Kids {
		own.Kids = append(own.Kids, swapped(k, other))
	}
	return own
}

func swappedRho(r int, other map[int]int) int {
	if o, is := other[r]; is {
		return o
	}
	return r
}

func swappedEff(e []api.Atom, other map[int]int) []api.Atom {
	var l []api.Atom
	for _, a := range e {
		if a.Kind != 3 {
			a.Rho = swappedRho(a.Rho, other)
		}
		l = append(l, a)
	}
	return l
}

// placed is a node of a term, and what it has.
type placed struct {
	api.ATerm
	above *placed
	kids  []*placed
	is    api.RType
	may   set
}

func place(t api.ATerm, above *placed) *placed {
	p := &placed{ATerm: t, above: above}
	for _, k := range t.Kids {
		p.kids = append(p.kids, place(k, p))
	}
	return p
}

// kidOf is which kid of the node above a node is.
func (p *placed) kidOf() int { return slices.Index(p.above.kids, p) }

// boundIn are the kids in which chapter 7 binds a field of a kind: "by KFn, its Arg, in its kid; by KLet, its Name, in its second kid; by KLetrec, its Name, in both kids, and its Arg, in the first one (where Arg counts, if both are the same); by KTry, its Arg, in its second kid".
func boundIn(kind uint8, field string) []int {
	switch rowOf(kind).name + " " + field {
	case "KFn Arg", "KLetrec Arg":
		return []int{0}
	case "KLet Name", "KTry Arg":
		return []int{1}
	case "KLetrec Name":
		return []int{0, 1}
	}
	return nil
}

// binder is the node that binds the name that a node is, and the field that is that name: the nearest one above; its Arg, if it binds two.
func (p *placed) binder() (*placed, string) {
	for q := p; q.above != nil; q = q.above {
		for _, field := range []string{"Arg", "Name"} {
			text := q.above.Arg
			if field == "Name" {
				text = q.above.Name
			}
			if text == p.Name && slices.Contains(boundIn(q.above.Kind, field), q.kidOf()) {
				return q.above, field
			}
		}
	}
	return nil, ""
}

// nameType is the type of a name that isn't a function of KLetrec: "the Arg of KFn and KLetrec has its Type, that of KTry int, the Name of KLet A".
func (p *placed) nameType(field string) api.RType {
	switch rowOf(p.Kind).name + " " + field {
	case "KFn Arg", "KLetrec Arg":
		return p.Type
	case "KTry Arg":
		return api.RType{Kind: 1}
	case "KLet Name":
		return p.kids[0].is
	}
	panic("no name: " + field)
}

// inScope tells whether a region is in scope at a node: "0 everywhere; the Rho of a KRegion in its kid; the Rhos of a KLetrec in its first kid".
func (p *placed) inScope(r int) bool {
	if r == 0 {
		return true
	}
	for q := p; q.above != nil; q = q.above {
		if q.above.Kind == 17 && q.above.Rho == r || q.above.Kind == 13 && q.kidOf() == 0 && slices.Contains(q.above.Rhos, r) {
			return true
		}
	}
	return false
}

// inOwn tells whether a region is in scope in a node's own Type, Res and Eff: those of a KLetrec have its Rhos, too.
func (p *placed) inOwn(r int) bool {
	return p.inScope(r) || p.Kind == 13 && slices.Contains(p.Rhos, r)
}

// aheadOf is the first error of a node ahead of its kids'.
func (p *placed) aheadOf() api.Errno {
	if p.Kind != 17 && !p.inScope(p.Rho) {
		return api.ErrScope
	}
	for _, r := range p.Rhos {
		if p.Kind == 18 && !p.inScope(r) {
			return api.ErrScope
		}
	}
	for _, r := range slices.Concat(effRhos(p.Eff), typeRhos(p.Type), typeRhos(p.Res)) {
		if !p.inOwn(r) {
			return api.ErrScope
		}
	}
	if p.Kind != 2 && p.Kind != 18 {
		return api.OK
	}
	by, field := p.binder()
	if by == nil {
		return api.ErrScope
	}
	isFunction := by.Kind == 13 && field == "Name"
	if p.Kind == 2 && isFunction || p.Kind == 18 && !(isFunction && len(by.Rhos) == len(p.Rhos)) {
		return api.ErrType
	}
	return api.OK
}

// swap is what a KInst has in place of its function's Rhos.
func (p *placed) swap() map[int]int {
	other := map[int]int{}
	by, _ := p.binder()
	for i, r := range by.Rhos {
		other[r] = p.Rhos[i]
	}
	return other
}

// part is the type of one of a node's kids.
func (p *placed) part(s string) api.RType { return p.kids[s[0]-'A'].is }

// read is the type that a text of the table's second column tells.
func (p *placed) read(s string) api.RType {
	switch s {
	case "int":
		return api.RType{Kind: 1}
	case "A", "B":
		return p.part(s)
	case "Type":
		return p.Type
	case "its name's":
		by, field := p.binder()
		return by.nameType(field)
	case "with r1 and so on, its Rhos, in place of its function's Rhos: a function from its Type to its Res, at Rho, whose effect is Eff":
		by, _ := p.binder()
		return api.RType{Kind: 4, Rho: p.Rho, Eff: p.Eff, Kids: []api.RType{swapped(by.Type, p.swap()), swapped(by.Res, p.swap())}}
	case "of pairs of A and B, at Rho":
		return api.RType{Kind: 2, Rho: p.Rho, Kids: []api.RType{p.part("A"), p.part("B")}}
	case "of references to A, at Rho":
		return api.RType{Kind: 3, Rho: p.Rho, Kids: []api.RType{p.part("A")}}
	case "of functions from Type to A, at Rho, whose effect is Eff":
		return api.RType{Kind: 4, Rho: p.Rho, Eff: p.Eff, Kids: []api.RType{p.Type, p.part("A")}}
	case "of A's first part", "what A refers to":
		return p.part("A").Kids[0]
	case "of A's second part", "what A answers":
		return p.part("A").Kids[1]
	}
	panic("not read: " + s)
}

// broken is the error, if a sentence of the table's third column doesn't hold.
func (p *placed) broken(s string) (bool, api.Errno) {
	switch s {
	case "so swapped, its function's Eff is within Eff":
		by, _ := p.binder()
		return !setOf(swappedEff(by.Eff, p.swap())...).within(setOf(p.Eff...)), api.ErrRegion
	case "A's effect is within Eff":
		return !p.kids[0].may.within(setOf(p.Eff...)), api.ErrRegion
	case "Rho isn't one of A's regions":
		return slices.Contains(typeRhos(p.part("A")), p.Rho), api.ErrRegion
	case "A is of pairs":
		return p.part("A").Kind != 2, api.ErrType
	case "A is of references":
		return p.part("A").Kind != 3, api.ErrType
	case "A is of references to B":
		return p.part("A").Kind != 3 || typeText(p.part("A").Kids[0]) != typeText(p.part("B")), api.ErrType
	case "A is of functions that take B":
		return p.part("A").Kind != 4 || typeText(p.part("A").Kids[0]) != typeText(p.part("B")), api.ErrType
	case "A is int":
		return p.part("A").Kind != 1, api.ErrType
	case "A and B are int":
		return p.part("A").Kind != 1 || p.part("B").Kind != 1, api.ErrType
	case "A is Res":
		return typeText(p.part("A")) != typeText(p.Res), api.ErrType
	case "A and B are the same":
		return typeText(p.part("A")) != typeText(p.part("B")), api.ErrType
	case "B and C are the same":
		return typeText(p.part("B")) != typeText(p.part("C")), api.ErrType
	}
	panic("not read: " + s)
}

// effect is what the table's last column tells, with the kids' effects.
func (p *placed) effect() set {
	all := make([]set, len(p.kids))
	for i, k := range p.kids {
		all[i] = setOf()
		for a := range k.may {
			all[i][a] = true
		}
	}
	more := setOf()
	for _, s := range rowOf(p.Kind).more {
		switch s {
		case "put of Rho":
			more[api.Atom{Kind: 2, Rho: p.Rho}] = true
		case "put of A's Rho":
			more[api.Atom{Kind: 2, Rho: p.part("A").Rho}] = true
		case "get of A's Rho":
			more[api.Atom{Kind: 1, Rho: p.part("A").Rho}] = true
		case "get of its function's Rho":
			by, _ := p.binder()
			more[api.Atom{Kind: 1, Rho: by.Rho}] = true
		case "and A's Eff":
			for _, a := range p.part("A").Eff {
				more[a] = true
			}
		case "exn of Exn":
			more[api.Atom{Kind: 3, Exn: p.Exn}] = true
		case "not A's effect":
			all[0] = nil
		case "of A's effect not exn of Exn":
			delete(all[0], api.Atom{Kind: 3, Exn: p.Exn})
		case "of A's effect no get and put of Rho":
			delete(all[0], api.Atom{Kind: 1, Rho: p.Rho})
			delete(all[0], api.Atom{Kind: 2, Rho: p.Rho})
		default:
			panic("not read: " + s)
		}
	}
	for _, s := range all {
		for a := range s {
			more[a] = true
		}
	}
	return more
}

// behind is the first error of a node behind its kids'; if there is none, it has its type and effect then.
func (p *placed) behind() api.Errno {
	for _, e := range []api.Errno{api.ErrType, api.ErrRegion} {
		for _, s := range rowOf(p.Kind).holds {
			if is, own := p.broken(s); is && own == e {
				return e
			}
		}
	}
	p.is, p.may = p.read(rowOf(p.Kind).typ), p.effect()
	if len(typeNodes(p.is)) > most {
		return api.ErrLong
	}
	return api.OK
}

// faultOf is the first error of a node and its kids, and its place.
func (p *placed) faultOf() (int, api.Errno) {
	if e := p.aheadOf(); e != api.OK {
		return p.At, e
	}
	for _, k := range p.kids {
		if at, e := k.faultOf(); e != api.OK {
			return at, e
		}
	}
	if e := p.behind(); e != api.OK {
		return p.At, e
	}
	return 0, api.OK
}

// checkOf is what Check is to answer: the texts of the type and of the effect, the place, and the error; of no right term the texts are empty.
func checkOf(t api.ATerm) (string, string, int, api.Errno) {
	if !aterm.May(t) {
		return "", "", 0, api.ErrArg
	}
	if at, is := aterm.Apart(t); !is {
		return "", "", at, api.ErrRegion
	}
	p := place(t, nil)
	if at, e := p.faultOf(); e != api.OK {
		return "", "", at, e
	}
	return typeText(p.is), p.may.text(), 0, api.OK
}
