package display_test

import (
	"fmt"
	"regexp"
	"slices"
	"strconv"
	"strings"

	"enclave/api"
	"enclave/effect"
	"enclave/rtype"
)

// What chapters 4, 13 and 14 say of kinds, signs and texts, word for word: what the tests ask comes of this, not of the program's own reading of it.
const (
	kindsTold = `
| KNum (1) | 5 | N | none |
| KVar (2) | x | Name | none |
| KPair (3) | ( a , b ) | | 2 |
| KFst (4), KSnd (5) | fst a, snd a | | 1 |
| KRef (6), KGet (7) | ref a, ! a | | 1 |
| KSet (8) | a := b | | 2 |
| KOp (9) | a + b, - * < = | Op (OpAdd 1, OpSub 2, OpMul 3, OpLess 4, OpSame 5) | 2 |
| KApp (10) | a b | | 2 |
| KFn (11) | fn x => a | Arg | 1 |
| KLet (12) | let x = a in b | Name | 2 |
| KLetrec (13) | letrec f x = a in b | Name, Arg | 2 |
| KIf (14) | if a then b else c | | 3 |
| KRaise (15) | raise E a | Exn | 1 |
| KTry (16) | try a with E x => b | Exn, Arg | 2 |
`
	newKindsTold = `of the Kind KRegion (17): one kid; of KInst (18): Name, and no kids`
	aloneTold    = `of KNum its digits, of KVar its Name; of each other kind it begins with ( and ends with )`
	betweenTold  = `
| KPair | a , b @ r |
| KFst, KSnd, KGet | fst a, snd a, ! a |
| KRef | ref a @ r |
| KSet, KOp | a := b; a + b, and so on |
| KApp | a b |
| KFn | fn x : T ! E => a @ r |
| KLet | let x = a in b |
| KLetrec | letrec f [ r1 r2 .. ] x : T -> U ! E = a @ r in b |
| KIf | if a then b else c |
| KRaise | raise X a : T |
| KTry | try a with X x => b |
| KRegion | region r in a |
| KInst | f [ r1 r2 .. ] ! E @ r |
`
	meantTold = `a, b, c are the kids' texts, r is Rho, r1 and so on are the Rhos (between [ and ] there is nothing, if there are none), E is the effect's text (11), T and U are Type's and Res' (12), x is Arg, or of KLet Name, f is Name, X is Exn`
)

// kindRow is what the chapters tell of a kind, or of an operation: the words of its text, with letters for what isn't the same in all.
type kindRow struct {
	name     string
	kind, op uint8
	words    []string
}

// kindRows are all of them.
var kindRows = readKinds()

// cells are the cells of a table's rows.
func cells(table string) [][]string {
	var rows [][]string
	for _, line := range strings.Split(strings.TrimSpace(table), "\n") {
		row := strings.Split(strings.Trim(line, "|"), "|")
		for i := range row {
			row[i] = strings.TrimSpace(row[i])
		}
		rows = append(rows, row)
	}
	return rows
}

// numbers are the kinds' numbers by their names, and those of the operations by their signs.
func numbers() (kinds, ops map[string]uint8) {
	kinds, ops = map[string]uint8{}, map[string]uint8{}
	for _, m := range regexp.MustCompile(`(K\w+) \((\d+)\)`).FindAllStringSubmatch(kindsTold+newKindsTold, -1) {
		n, _ := strconv.Atoi(m[2])
		kinds[m[1]] = uint8(n)
	}
	for _, row := range cells(kindsTold) {
		if first, others, is := strings.Cut(row[1], ", "); is && strings.Contains(row[2], "Op") {
			for i, sign := range append(strings.Fields(first)[1:2], strings.Fields(others)...) {
				ops[sign] = uint8(i + 1)
			}
		}
	}
	return kinds, ops
}

func readKinds() []kindRow {
	kinds, ops := numbers()
	rows := []kindRow{{"KNum", kinds["KNum"], 0, []string{"digits"}}, {"KVar", kinds["KVar"], 0, []string{"f"}}}
	if aloneTold != "of KNum its digits, of KVar its Name; of each other kind it begins with ( and ends with )" {
		panic("the chapter tells something else")
	}
	for _, row := range cells(betweenTold) {
		names, texts := strings.Split(row[0], ", "), []string{row[1]}
		if len(names) > 1 {
			texts = regexp.MustCompile(`\b, |; `).Split(strings.TrimSuffix(row[1], ", and so on"), -1)
		}
		for i, name := range names {
			words := append(append([]string{"("}, strings.Fields(texts[i])...), ")")
			if name != "KOp" {
				rows = append(rows, kindRow{name, kinds[name], 0, words})
				continue
			}
			for sign, op := range ops {
				own := slices.Clone(words)
				own[slices.Index(own, "+")] = sign
				rows = append(rows, kindRow{name, kinds[name], op, own})
			}
		}
	}
	slices.SortFunc(rows, func(a, b kindRow) int { return int(a.kind)*8 + int(a.op) - int(b.kind)*8 - int(b.op) })
	return rows
}

// field is the field of a term that a word of its row stands for; of a kid its number, as a digit; of a word that stands for itself none.
func field(kind uint8, word string) string {
	switch word {
	case "digits":
		return "N"
	case "a", "b", "c":
		return strconv.Itoa(int(word[0] - 'a'))
	case "r":
		return "Rho"
	case "r1":
		return "Rhos"
	case "E":
		return "Eff"
	case "T":
		return "Type"
	case "U":
		return "Res"
	case "x":
		if kind == api.KLet && strings.Contains(meantTold, "x is Arg, or of KLet Name") {
			return "Name"
		}
		return "Arg"
	case "f":
		return "Name"
	case "X":
		return "Exn"
	}
	return ""
}

// fields are the fields that a row's words stand for, in order.
func (r kindRow) fields() []string {
	var l []string
	for _, w := range r.words {
		if f := field(r.kind, w); f != "" {
			l = append(l, f)
		}
	}
	return l
}

// kids is how many kids a row has.
func (r kindRow) kids() int {
	n := 0
	for _, f := range r.fields() {
		if f <= "9" {
			n++
		}
	}
	return n
}

// rowOf is the row of a term's kind.
func rowOf(t api.ATerm) kindRow {
	for _, r := range kindRows {
		if r.kind == t.Kind && r.op == t.Op {
			return r
		}
	}
	panic("no such kind")
}

// wordsOf are the words of the text of a term that may be, one by one, put behind others.
func wordsOf(l []string, t api.ATerm) []string {
	for _, w := range rowOf(t).words {
		switch f := field(t.Kind, w); f {
		case "N":
			l = append(l, strconv.FormatInt(t.N, 10))
		case "0", "1", "2":
			l = wordsOf(l, t.Kids[f[0]-'0'])
		case "Rho":
			l = append(l, strconv.Itoa(t.Rho))
		case "Rhos":
			for _, rho := range t.Rhos {
				l = append(l, strconv.Itoa(rho))
			}
		case "Eff":
			l = append(l, strings.Split(effect.Text(t.Eff), " ")...)
		case "Type":
			l = append(l, typeWords(t.Type)...)
		case "Res":
			l = append(l, typeWords(t.Res)...)
		case "Name":
			l = append(l, t.Name)
		case "Arg":
			l = append(l, t.Arg)
		case "Exn":
			l = append(l, t.Exn)
		default:
			if w != "r2" && w != ".." { // those go with r1
				l = append(l, w)
			}
		}
	}
	return l
}

func typeWords(t api.RType) []string {
	s, e := rtype.Text(t)
	if e != api.OK {
		panic("a type that may not be")
	}
	return strings.Split(s, " ")
}

// countOf is how many of a term's words are one of some.
func countOf(text []string, some []string) int {
	asked := map[string]bool{}
	for _, s := range some {
		asked[s] = true
	}
	n := 0
	for _, w := range text {
		if asked[w] {
			n++
		}
	}
	return n
}

// exactly is all that there is of a term.
func exactly(t api.ATerm) string {
	var b strings.Builder
	write(&b, t, true)
	return b.String()
}

// butForPlaces is all that there is of a term but its places: two that may be are the same but for places, if this is the same of both.
func butForPlaces(t api.ATerm) string {
	var b strings.Builder
	write(&b, t, false)
	return b.String()
}

func write(b *strings.Builder, t api.ATerm, places bool) {
	if !places {
		t.At = 0
	}
	fmt.Fprintf(b, "[%d %d %d %d %q %q %q %d %d %v ", t.Kind, t.Op, t.At, t.N, t.Name, t.Arg, t.Exn, t.Rho, t.Rhos, t.Eff)
	writeType(b, t.Type)
	writeType(b, t.Res)
	for _, k := range t.Kids {
		write(b, k, places)
	}
	b.WriteString("]")
}

func writeType(b *strings.Builder, t api.RType) {
	fmt.Fprintf(b, "<%d %d %v", t.Kind, t.Rho, t.Eff)
	for _, k := range t.Kids {
		writeType(b, k)
	}
	b.WriteString(">")
}
