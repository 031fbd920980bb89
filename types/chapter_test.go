package types_test

import (
	"fmt"
	"regexp"
	"slices"
	"strconv"
	"strings"

	"enclave/api"
)

// What chapter 8 says of kinds, texts and brackets, word for word: what the tests ask comes of this, not of the program's own reading of it.
const (
	kindsTold    = `TyInt (1): none; TyPair (2): 2; TyRef (3): 1; TyFn (4): 2, of what it takes, and of what it answers; TyVar (5): none, but a number, Var, from 0 on (of other kinds Var is 0)`
	textsTold    = `int; ( A * B ); ref A; A -> B; a variable is ? and its number, as one word`
	bracketsTold = `a TyFn, and the kid of a TyRef, or the first kid of a TyFn`
)

// kindRow is what the chapter tells of a kind.
type kindRow struct {
	name     string
	kind     uint8
	kids     int
	numbered bool     // it may have another number than 0
	words    []string // with A and B for its kids, and ? for a variable
	brackets []bool   // whether they stand around a kid that is a TyFn, of each kid
}

// kindRows are all kinds.
var kindRows = readKinds()

func readKinds() []kindRow {
	var rows []kindRow
	texts := strings.Split(textsTold, "; ")
	for i, part := range strings.Split(kindsTold, "; ") {
		m := regexp.MustCompile(`^(Ty\w+) \((\d)\): (none|\d)(, but a number, Var)?`).FindStringSubmatch(part)
		kind, _ := strconv.Atoi(m[2])
		kids, _ := strconv.Atoi(m[3]) // of none 0
		text := strings.TrimPrefix(texts[i], "a variable is ")
		text = strings.TrimSuffix(text, " and its number, as one word")
		rows = append(rows, kindRow{m[1], uint8(kind), kids, m[4] != "", strings.Fields(text), readBrackets(m[1], kids)})
	}
	return rows
}

// readBrackets are the kids around which brackets stand, of a kind.
func readBrackets(name string, kids int) []bool {
	l := make([]bool, kids)
	for _, m := range regexp.MustCompile(`the (kid|first kid) of a (Ty\w+)`).FindAllStringSubmatch(bracketsTold, -1) {
		if m[2] == name {
			l[0] = true
		}
	}
	return l
}

// rowOf is the row of a kind, and whether there is one.
func rowOf(kind uint8) (kindRow, bool) {
	i := slices.IndexFunc(kindRows, func(r kindRow) bool { return r.kind == kind })
	if i < 0 {
		return kindRow{}, false
	}
	return kindRows[i], true
}

// nodes are the nodes of types, each ahead of its kids, in order.
func nodes(l ...api.Type) []api.Type {
	var found []api.Type
	for row := slices.Clone(l); len(row) > 0; {
		t := row[0]
		found = append(found, t)
		row = append(slices.Clone(t.Kids), row[1:]...)
	}
	return found
}

// mayOf, closedOf, arrowsOf and textOf are what May, Closed, Arrows and Text are to answer; textOf of a type that may be.
func mayOf(t api.Type) bool {
	for _, x := range nodes(t) {
		r, is := rowOf(x.Kind)
		if !is || len(x.Kids) != r.kids || x.Var < 0 || x.Var > 0 && !r.numbered {
			return false
		}
	}
	return true
}

func closedOf(t api.Type) bool {
	return mayOf(t) && !slices.ContainsFunc(nodes(t), func(x api.Type) bool { return x.Kind == 5 })
}

func arrowsOf(l ...api.Type) bool {
	return slices.ContainsFunc(nodes(l...), func(x api.Type) bool { return x.Kind == 4 })
}

func textOf(t api.Type) string {
	r, _ := rowOf(t.Kind)
	var words []string
	for _, w := range r.words {
		switch w {
		case "A":
			words = append(words, kidText(t, r, 0))
		case "B":
			words = append(words, kidText(t, r, 1))
		case "?":
			words = append(words, fmt.Sprintf("?%d", t.Var))
		default:
			words = append(words, w)
		}
	}
	return strings.Join(words, " ")
}

func kidText(t api.Type, r kindRow, kid int) string {
	s := textOf(t.Kids[kid])
	if t.Kids[kid].Kind == 4 && r.brackets[kid] {
		return "( " + s + " )"
	}
	return s
}

// whole is all that there is of a type, as a text: two types are the same, if their wholes are.
func whole(t api.Type) string {
	s := fmt.Sprintf("[%d %d", t.Kind, t.Var)
	for _, k := range t.Kids {
		s += " " + whole(k)
	}
	return s + "]"
}

// reader reads a type's text by itself, with no more of the program than the kinds: there is but one type that a text can be read as, so that no two have one text.
type reader struct{ words []string }

// readText is the type of a text, and whether it is one.
func readText(s string) (api.Type, bool) {
	r := &reader{strings.Split(s, " ")}
	t, ok := r.whole()
	return t, ok && len(r.words) == 0
}

// next takes a word, if it is this one.
func (r *reader) next(word string) bool {
	if len(r.words) == 0 || r.words[0] != word {
		return false
	}
	r.words = r.words[1:]
	return true
}

// whole reads what no brackets need to stand around.
func (r *reader) whole() (api.Type, bool) {
	t, ok := r.part()
	if !ok || !r.next("->") {
		return t, ok
	}
	answer, ok := r.whole()
	return api.Type{Kind: 4, Kids: []api.Type{t, answer}}, ok
}

// part reads what stands where a function's type has brackets.
func (r *reader) part() (api.Type, bool) {
	switch {
	case r.next("int"):
		return api.Type{Kind: 1}, true
	case r.next("ref"):
		t, ok := r.part()
		return api.Type{Kind: 3, Kids: []api.Type{t}}, ok
	case r.next("("):
		return r.bracketed()
	case len(r.words) > 0 && strings.HasPrefix(r.words[0], "?"):
		n, err := strconv.Atoi(r.words[0][1:])
		ok := err == nil && r.words[0] == "?"+strconv.Itoa(n)
		r.words = r.words[1:]
		return api.Type{Kind: 5, Var: n}, ok
	}
	return api.Type{}, false
}

// bracketed reads a pair's type, or a function's in brackets, from behind the bracket on.
func (r *reader) bracketed() (api.Type, bool) {
	t, ok := r.whole()
	if !ok || r.next(")") {
		return t, ok && t.Kind == 4
	}
	if !r.next("*") {
		return t, false
	}
	second, ok := r.whole()
	return api.Type{Kind: 2, Kids: []api.Type{t, second}}, ok && r.next(")")
}
