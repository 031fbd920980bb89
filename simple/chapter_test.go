package simple_test

import (
	"fmt"
	"slices"
	"strings"

	"enclave/api"
)

// What the chapters tell, word for word: what the tests ask comes of this, not of the program's own reading of it.
const (
	// tableTold is chapter 10's table.
	tableTold = `
| KNum | T is int |
| KVar | T is the type of the name that is bound there |
| KPair | T is ( A * B ) |
| KFst, KSnd | A is the type of pairs whose first, second, part is T |
| KRef | T is ref A |
| KGet | A is ref T |
| KSet | A is ref B; T is int |
| KOp | A, B and T are int |
| KApp | A is B -> T |
| KFn | T is of a function from Arg's type to A |
| KLet | Name's type is A; T is B |
| KLetrec | Name's type is of a function from Arg's type to A; T is B |
| KIf | A is int; B and C are T |
| KRaise | A is int |
| KTry | A and B are T; Arg's type is int |
`
	// kindsTold is chapter 4's table: kinds, fields, and how many kids there are.
	kindsTold = `
| KNum (1) | 5 | N | none |
| KVar (2) | x | Name | none |
| KPair (3) | ( a , b ) | | 2 |
| KFst (4), KSnd (5) | fst a, snd a | | 1 |
| KRef (6), KGet (7) | ref a, ! a | | 1 |
| KSet (8) | a := b | | 2 |
| KOp (9) | a + b, - * < = | Op (OpAdd 1, OpSub 2, OpMul 3, OpLess 4, OpSame 5) | 2 |
| KApp (10) | a b | | 2 |
| KFn (11) | fn x => a | Arg | 1 |
| KLet (12) | let x = a in b | Name | 2 |
| KLetrec (13) | letrec f x = a in b | Name, Arg | 2 |
| KIf (14) | if a then b else c | | 3 |
| KRaise (15) | raise E a | Exn | 1 |
| KTry (16) | try a with E x => b | Exn, Arg | 2 |
`
)

// kindRow is what the chapters tell of a kind.
type kindRow struct {
	name   string
	kind   uint8
	fields []string
	kids   int
	holds  []string // as "T is int"
}

// kindRows are all kinds.
var kindRows = readKinds()

// lines are the cells of a table's lines.
func lines(table string) [][]string {
	var l [][]string
	for _, s := range strings.Split(strings.TrimSpace(table), "\n") {
		cells := strings.Split(strings.Trim(s, "|"), "|")
		for i := range cells {
			cells[i] = strings.TrimSpace(cells[i])
		}
		l = append(l, cells)
	}
	return l
}

func readKinds() []kindRow {
	var rows []kindRow
	for _, cells := range lines(kindsTold) {
		for _, s := range strings.Split(cells[0], ", ") {
			r := kindRow{}
			fmt.Sscanf(s, "%s (%d)", &r.name, &r.kind)
			fmt.Sscanf(cells[3], "%d", &r.kids) // none is 0
			for _, f := range []string{"N", "Name", "Op", "Arg", "Exn"} {
				if slices.Contains(strings.FieldsFunc(cells[2], func(c rune) bool { return c == ' ' || c == ',' }), f) {
					r.fields = append(r.fields, f)
				}
			}
			rows = append(rows, r)
		}
	}
	for _, cells := range lines(tableTold) {
		for i, name := range strings.Split(cells[0], ", ") {
			r := &rows[slices.IndexFunc(rows, func(r kindRow) bool { return r.name == name })]
			for _, s := range strings.Split(cells[1], "; ") {
				if strings.Contains(s, "first, second,") { // of two kinds each has its own
					s = strings.Replace(s, "first, second,", []string{"first", "second"}[i], 1)
				}
				r.holds = append(r.holds, s)
			}
		}
	}
	return rows
}

// rowOf is the row of a kind.
func rowOf(kind uint8) kindRow {
	return kindRows[slices.IndexFunc(kindRows, func(r kindRow) bool { return r.kind == kind })]
}

// boundIn are the kids in which a node's field is bound, by chapter 7.
func boundIn(kind uint8, field string) []int {
	switch rowOf(kind).name + " " + field {
	case "KFn Arg", "KLetrec Arg":
		return []int{0}
	case "KLet Name", "KTry Arg":
		return []int{1}
	case "KLetrec Name":
		return []int{0, 1}
	}
	return nil
}

// equation is that two types are the same.
type equation [2]api.Type

// placed is a node of a term, with what the table asks of it.
type placed struct {
	api.Term
	above   *placed
	kids    []*placed
	t       api.Type            // its T, a variable
	names   map[string]api.Type // by field, Name or Arg: that name's type, a variable
	answers api.Type            // of KLetrec what its function answers, a variable
	start   *placed             // the first node, behind its kids, of the first kid in which one of the names is bound
	ahead   []equation          // what holds from there on
	own     []equation          // what holds with the node
}

// maker makes variables.
type maker struct{ vars int }

func (m *maker) fresh() api.Type {
	m.vars++
	return api.Type{Kind: 5, Var: m.vars}
}

// place makes a term's nodes.
func (m *maker) place(t api.Term, above *placed) *placed {
	p := &placed{Term: t, above: above, t: m.fresh(), names: map[string]api.Type{}, answers: m.fresh()}
	for _, f := range rowOf(t.Kind).fields {
		if f == "Arg" || f == "Name" && t.Kind != 2 {
			p.names[f] = m.fresh()
		}
	}
	for _, k := range t.Kids {
		p.kids = append(p.kids, m.place(k, p))
	}
	if l := append(boundIn(t.Kind, "Name"), boundIn(t.Kind, "Arg")...); len(l) > 0 {
		p.start = p.kids[slices.Min(l)].back()[0]
	}
	for _, s := range rowOf(t.Kind).holds {
		m.ask(p, s)
	}
	return p
}

// ask reads one of the table's sentences.
func (m *maker) ask(p *placed, s string) {
	left, right, is := strings.Cut(s, " is ")
	if !is {
		left, right, _ = strings.Cut(s, " are ")
	}
	for _, l := range strings.Split(strings.ReplaceAll(left, " and ", ", "), ", ") {
		if !strings.HasSuffix(l, "'s type") {
			p.own = append(p.own, equation{m.read(p, l), m.read(p, right)})
			continue
		}
		if p.Kind == 13 { // "but that a KLetrec's function answers A, with the node"
			p.own = append(p.own, equation{p.answers, m.read(p, "A")})
			right = strings.TrimSuffix(right, "A") + "answers"
		}
		p.ahead = append(p.ahead, equation{m.read(p, l), m.read(p, right)})
	}
}

// read is the type that a text of the table tells of a node.
func (m *maker) read(p *placed, s string) api.Type {
	switch s {
	case "int":
		return num()
	case "T":
		return p.t
	case "A", "B", "C":
		return p.kids[s[0]-'A'].t
	case "answers":
		return p.answers
	case "Name's type", "Arg's type":
		return p.names[strings.TrimSuffix(s, "'s type")]
	case "( A * B )":
		return pair(m.read(p, "A"), m.read(p, "B"))
	case "B -> T":
		return fn(m.read(p, "B"), p.t)
	case "the type of pairs whose first part is T":
		return pair(p.t, m.fresh())
	case "the type of pairs whose second part is T":
		return pair(m.fresh(), p.t)
	case "the type of the name that is bound there":
		t, _ := p.bound()
		return t
	}
	if rest, is := strings.CutPrefix(s, "ref "); is {
		return ref(m.read(p, rest))
	}
	if rest, is := strings.CutPrefix(s, "of a function from Arg's type to "); is {
		return fn(p.names["Arg"], m.read(p, rest))
	}
	panic("not read: " + s)
}

// bound is the type of the name that a node is, and whether it is bound: by the nearest node above it that binds such a name there; by its Arg, if it binds two.
func (p *placed) bound() (api.Type, bool) {
	for q := p; q.above != nil; q = q.above {
		kid := slices.Index(q.above.kids, q)
		if kid < 0 { // as the kids ahead of it alone are there yet
			kid = len(q.above.kids)
		}
		for _, f := range []string{"Arg", "Name"} {
			text := q.above.Arg
			if f == "Name" {
				text = q.above.Name
			}
			if text == p.Name && slices.Contains(boundIn(q.above.Kind, f), kid) {
				return q.above.names[f], true
			}
		}
	}
	return api.Type{}, false
}

// forth are nodes, each ahead of its kids; back are they, each behind them.
func (p *placed) forth() []*placed {
	l := []*placed{p}
	for _, k := range p.kids {
		l = append(l, k.forth()...)
	}
	return l
}

func (p *placed) back() []*placed {
	var l []*placed
	for _, k := range p.kids {
		l = append(l, k.back()...)
	}
	return append(l, p)
}

// solver is what variables stand for.
type solver map[int]api.Type

// put is a type with all that is known put into it.
func (s solver) put(t api.Type) api.Type {
	if is, known := s[t.Var]; known && t.Kind == 5 {
		return s.put(is)
	}
	kids := t.Kids
	t.Kids = nil
	for _, k := range kids {
		t.Kids = append(t.Kids, s.put(k))
	}
	return t
}

// shown is what a type is, but for its kids.
func (s solver) shown(t api.Type) api.Type {
	for t.Kind == 5 && s[t.Var].Kind != 0 {
		t = s[t.Var]
	}
	return t
}

// join makes two types the same, if that can be.
func (s solver) join(a, b api.Type) bool {
	a, b = s.shown(a), s.shown(b)
	if a.Kind != 5 && b.Kind == 5 {
		a, b = b, a
	}
	if a.Kind == 5 && b.Kind == 5 && a.Var == b.Var {
		return true
	}
	if a.Kind == 5 {
		if strings.Contains(text(s.put(b))+" ", text(a)+" ") { // it would stand within itself
			return false
		}
		s[a.Var] = b
		return true
	}
	if a.Kind != b.Kind {
		return false
	}
	for i := range a.Kids {
		if !s.join(a.Kids[i], b.Kids[i]) {
			return false
		}
	}
	return true
}

func (s solver) all(l []equation) bool {
	return !slices.ContainsFunc(l, func(e equation) bool { return !s.join(e[0], e[1]) })
}

// checkOf is what Check is to answer of a term that may be: node by node, each behind its kids, all that holds then is told from the beginning on.
func checkOf(t api.Term) (api.Typed, int, api.Errno) {
	m := &maker{}
	p := m.place(t, nil)
	for _, q := range p.forth() {
		if q.Kind == 2 {
			if _, is := q.bound(); !is {
				return api.Typed{}, q.At, api.ErrScope
			}
		}
	}
	s := solver{}
	for _, q := range p.back() {
		l := q.own
		for a := q; a != nil; a = a.above { // no other one can start with this node
			if a.start == q {
				l = append(slices.Clone(a.ahead), l...)
			}
		}
		if !s.all(l) {
			return api.Typed{}, q.At, api.ErrType
		}
	}
	for _, q := range p.forth() {
		y := q.typed(s)
		if size(y.Type) > 500 || size(y.Bind) > 500 {
			return api.Typed{}, q.At, api.ErrLong
		}
	}
	return p.whole(s), 0, api.OK
}

// typed is a node with its types, without kids.
func (p *placed) typed(s solver) api.Typed {
	y := api.Typed{Head: p.Head, Type: settled(s.put(p.t))}
	if p.Kind == 13 {
		y.Bind = settled(s.put(p.names["Name"]))
	}
	return y
}

func (p *placed) whole(s solver) api.Typed {
	y := p.typed(s)
	for _, k := range p.kids {
		y.Kids = append(y.Kids, k.whole(s))
	}
	return y
}

// settled is a type with int for each variable.
func settled(t api.Type) api.Type {
	if t.Kind == 5 {
		return num()
	}
	kids := t.Kids
	t.Kids = nil
	for _, k := range kids {
		t.Kids = append(t.Kids, settled(k))
	}
	return t
}

// fits tells whether types fit a term, by the words: there are types for its names, so that all of the table holds of these types.
func fits(y api.Typed) bool {
	p := (&maker{}).place(erased(y), nil)
	s := solver{}
	row := []api.Typed{y}
	for _, q := range p.forth() {
		node := row[0]
		row = append(slices.Clone(node.Kids), row[1:]...)
		if !closed(node.Type) || !s.join(q.t, node.Type) || !s.all(q.ahead) || !s.all(q.own) {
			return false
		}
		if q.Kind == 13 && !(closed(node.Bind) && s.join(q.names["Name"], node.Bind)) {
			return false
		}
		if q.Kind != 13 && text(node.Bind) != text(api.Type{}) {
			return false
		}
	}
	return true
}

// erased is a term without its types.
func erased(y api.Typed) api.Term {
	t := api.Term{Head: y.Head}
	for _, k := range y.Kids {
		t.Kids = append(t.Kids, erased(k))
	}
	return t
}

// closed tells whether a type may be, and has no variable.
func closed(t api.Type) bool {
	kids, is := map[uint8]int{1: 0, 2: 2, 3: 1, 4: 2}[t.Kind]
	return is && t.Var == 0 && len(t.Kids) == kids && !slices.ContainsFunc(t.Kids, func(k api.Type) bool { return !closed(k) })
}

// of is a type of a kind and kids.
func of(kind uint8, kids ...api.Type) api.Type { return api.Type{Kind: kind, Kids: kids} }

func num() api.Type { return of(1) }

func pair(a, b api.Type) api.Type { return of(2, a, b) }

func ref(a api.Type) api.Type { return of(3, a) }

func fn(a, b api.Type) api.Type { return of(4, a, b) }

// text is all that there is of a type.
func text(t api.Type) string {
	var b strings.Builder
	write(&b, t)
	return b.String()
}

func write(b *strings.Builder, t api.Type) {
	switch {
	case t.Kind == 1 && t.Var == 0 && len(t.Kids) == 0:
		b.WriteString("int")
	case t.Kind == 5 && len(t.Kids) == 0:
		fmt.Fprintf(b, "?%d", t.Var)
	default:
		fmt.Fprintf(b, "[%d %d", t.Kind, t.Var)
		for _, k := range t.Kids {
			b.WriteString(" ")
			write(b, k)
		}
		b.WriteString(" ]")
	}
}

// size is how many nodes a type has.
func size(t api.Type) int {
	n := 1
	for _, k := range t.Kids {
		n += size(k)
	}
	return n
}

// whole is all that there is of a term with types.
func whole(y api.Typed) string {
	var b strings.Builder
	writeTyped(&b, y)
	return b.String()
}

func writeTyped(b *strings.Builder, y api.Typed) {
	fmt.Fprintf(b, "{%d %d %d %d %q %q %q : %s", y.Kind, y.Op, y.At, y.N, y.Name, y.Arg, y.Exn, text(y.Type))
	if bind := text(y.Bind); bind != text(api.Type{}) {
		fmt.Fprintf(b, " : %s", bind)
	}
	for _, k := range y.Kids {
		b.WriteString(" ")
		writeTyped(b, k)
	}
	b.WriteString("}")
}
