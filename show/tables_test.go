package show_test

import (
	"slices"
	"strconv"
	"strings"

	"enclave/api"
)

// written is chapter 4's table of kinds, word for word: what the tests ask of a text comes of this and of the two below, not of the program's own reading of them.
const written = `
| KNum (1) | 5 | N | none |
| KVar (2) | x | Name | none |
| KPair (3) | ( a , b ) | | 2 |
| KFst (4), KSnd (5) | fst a, snd a | | 1 |
| KRef (6), KGet (7) | ref a, ! a | | 1 |
| KSet (8) | a := b | | 2 |
| KOp (9) | a + b, - * < = | Op (OpAdd 1, OpSub 2, OpMul 3, OpLess 4, OpSame 5) | 2 |
| KApp (10) | a b | | 2 |
| KFn (11) | fn x => a | Arg | 1 |
| KLet (12) | let x = a in b | Name | 2 |
| KLetrec (13) | letrec f x = a in b | Name, Arg | 2 |
| KIf (14) | if a then b else c | | 3 |
| KRaise (15) | raise E a | Exn | 1 |
| KTry (16) | try a with E x => b | Exn, Arg | 2 |
`

// looseToTight are the chapter's parts of the grammar, from the loosest on; unary are all others.
const looseToTight = `expr (KLet, KLetrec, KFn, KIf, KTry), set (KSet), rel (KOp of < and =), sum (KOp of + and -), prod (KOp of *), apply (KApp), unary (all others)`

// standFor is the chapter's table of what kids stand for.
const standFor = `
| KLet, KLetrec, KFn, KIf, KTry, KPair | expr |
| KSet | rel, rel |
| KOp of < and = | sum, sum |
| KOp of + and - | sum, prod |
| KOp of * | prod, apply |
| KApp | apply, unary |
| KFst, KSnd, KRef, KGet, KRaise | unary |
`

// kindRow is what the tables tell of a kind, or of an operation.
type kindRow struct {
	kind, op uint8
	kids     int
	pattern  []string // the words, with 5 for the number, x, f and E for names and exceptions, and a, b, c for the kids
	fields   []string // what 5, x, f and E are, in order
	as       []int    // which part each kid stands for; those behind the last one as the last one
	part     int
}

// kindRows are the kinds by their names, operations by their signs.
var kindRows = rowsOf()

// cells are the cells of a table's rows.
func cells(table string) [][]string {
	var rows [][]string
	for _, line := range strings.Split(strings.TrimSpace(table), "\n") {
		row := strings.Split(strings.Trim(line, "|"), "|")
		for i := range row {
			row[i] = strings.TrimSpace(row[i])
		}
		rows = append(rows, row)
	}
	return rows
}

// names are the kinds that the chapter tells at once: "KFn, KIf", or of "KOp of < and =" its signs.
func names(s string) []string {
	if signs, ok := strings.CutPrefix(s, "KOp of "); ok {
		return strings.Split(signs, " and ")
	}
	return strings.Split(s, ", ")
}

func rowsOf() map[string]*kindRow {
	rows := map[string]*kindRow{}
	for _, row := range cells(written) {
		kids, _ := strconv.Atoi(row[3])
		kinds, patterns := strings.Split(row[0], ", "), []string{row[1]}
		if len(kinds) > 1 {
			patterns = strings.Split(row[1], ", ")
		}
		for i, k := range kinds {
			name, number, _ := strings.Cut(strings.TrimSuffix(k, ")"), " (")
			n, _ := strconv.Atoi(number)
			r := kindRow{kind: uint8(n), kids: kids, pattern: strings.Fields(patterns[i]), fields: strings.Split(row[2], ", "), part: -1}
			if name != "KOp" {
				rows[name] = &r
				continue
			}
			first, others, _ := strings.Cut(row[1], ", ")
			for j, sign := range append(strings.Fields(first)[1:2], strings.Fields(others)...) {
				op := r
				op.op, op.pattern, op.fields = uint8(j+1), []string{"a", sign, "b"}, nil
				rows[sign] = &op
			}
		}
	}
	var order []string
	for _, p := range strings.Split(strings.TrimSuffix(looseToTight, ")"), "), ") {
		part, kinds, _ := strings.Cut(p, " (")
		for _, name := range names(kinds) {
			if r := rows[name]; r != nil {
				r.part = len(order)
			}
		}
		order = append(order, part)
	}
	for _, r := range rows {
		if r.part < 0 {
			r.part = slices.Index(order, "unary")
		}
	}
	for _, row := range cells(standFor) {
		for _, name := range names(row[0]) {
			for _, part := range strings.Split(row[1], ", ") {
				rows[name].as = append(rows[name].as, slices.Index(order, part))
			}
		}
	}
	return rows
}

// rowOf is the row of a term's kind.
func rowOf(t api.Term) *kindRow {
	for _, r := range kindRows {
		if r.kind == t.Kind && r.op == t.Op {
			return r
		}
	}
	panic("no such kind")
}

// wordsOf are the words of a term's text, as the tables tell.
func wordsOf(l []string, t api.Term) []string {
	r := rowOf(t)
	fields := r.fields
	for _, w := range r.pattern {
		switch w {
		case "a", "b", "c":
			i := int(w[0] - 'a')
			l = kidWords(l, t.Kids[i], r.as[min(i, len(r.as)-1)])
		case "5", "x", "f", "E":
			l = append(l, field(t, fields[0]))
			fields = fields[1:]
		default:
			l = append(l, w)
		}
	}
	return l
}

// kidWords are the words of a kid that stands for a part.
func kidWords(l []string, t api.Term, as int) []string {
	if rowOf(t).part >= as {
		return wordsOf(l, t)
	}
	return append(wordsOf(append(l, "("), t), ")")
}

// field is a term's field as text.
func field(t api.Term, name string) string {
	switch name {
	case "N":
		return strconv.FormatInt(t.N, 10)
	case "Name":
		return t.Name
	case "Arg":
		return t.Arg
	}
	return t.Exn
}

// textOf is a term's text, as the tables tell.
func textOf(t api.Term) string { return strings.Join(wordsOf(nil, t), " ") }

// allHeads are heads of all kinds and operations, and allKids how many kids each has.
var allHeads, allKids = heads()

// heads has each head with fields that it may have, in the order of their kinds and operations.
func heads() ([]api.Head, []int) {
	var rows []*kindRow
	for _, r := range kindRows {
		rows = append(rows, r)
	}
	slices.SortFunc(rows, func(a, b *kindRow) int { return int(a.kind)*8 + int(a.op) - int(b.kind)*8 - int(b.op) })
	var all []api.Head
	var kids []int
	for _, r := range rows {
		h := api.Head{Kind: r.kind, Op: r.op}
		for _, f := range r.fields {
			switch f {
			case "N":
				h.N = 7
			case "Name":
				h.Name = "f"
			case "Arg":
				h.Arg = "y"
			case "Exn":
				h.Exn = "E"
			}
		}
		all, kids = append(all, h), append(kids, r.kids)
	}
	return all, kids
}
