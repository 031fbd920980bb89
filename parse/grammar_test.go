package parse_test

import (
	"regexp"
	"slices"
	"strings"
	"testing"

	"enclave/api"
	"enclave/token"
)

// grammar is the chapter's, word for word: what the tests ask of it comes of these lines, not of the program's own reading of them.
const grammar = `
program = { "exn" exn ";" } expr
expr    = "let" name "=" expr "in" expr
        | "letrec" name name "=" expr "in" expr
        | "fn" name "=>" expr
        | "if" expr "then" expr "else" expr
        | "try" expr "with" exn name "=>" expr
        | set
set     = rel [ ":=" rel ]
rel     = sum [ ( "<" | "=" ) sum ]
sum     = prod { ( "+" | "-" ) prod }
prod    = apply { "*" apply }
apply   = unary { unary }
unary   = ( "!" | "ref" | "fst" | "snd" ) unary
        | "raise" exn unary
        | number | name
        | "(" expr [ "," expr ] ")"
`

// What a rule is.
const (
	isWord = iota
	isPart
	isRow
	isChoice
	isMany
	isOnce
)

// rule is a piece of the grammar: a word or a part, of a text, or what is made of others.
type rule struct {
	kind int
	text string
	of   []*rule
}

// reader reads the grammar's own text.
type reader struct{ rest []string }

func (r *reader) next() string {
	if len(r.rest) == 0 {
		return ""
	}
	return r.rest[0]
}

func (r *reader) take() string {
	s := r.next()
	r.rest = r.rest[1:]
	return s
}

func (r *reader) choice() *rule {
	c := &rule{kind: isChoice, of: []*rule{r.row()}}
	for r.next() == "|" {
		r.take()
		c.of = append(c.of, r.row())
	}
	return c
}

func (r *reader) row() *rule {
	row := &rule{kind: isRow}
	for r.next() != "" && !strings.Contains("|)]}", r.next()) && !(len(r.rest) > 1 && r.rest[1] == "=") {
		row.of = append(row.of, r.piece())
	}
	return row
}

func (r *reader) piece() *rule {
	s := r.take()
	if i := strings.Index("([{", s); i >= 0 {
		inner := r.choice()
		r.take()
		return &rule{kind: []int{isChoice, isOnce, isMany}[i], of: []*rule{inner}}
	}
	if word, ok := strings.CutPrefix(s, `"`); ok {
		return &rule{kind: isWord, text: strings.TrimSuffix(word, `"`)}
	}
	return &rule{kind: isPart, text: s}
}

// parts are the grammar's parts by their names.
var parts = partsOf(grammar)

func partsOf(text string) map[string]*rule {
	r := &reader{regexp.MustCompile(`"[^"]+"|[a-z]+|[][(){}|=]`).FindAllString(text, -1)}
	all := map[string]*rule{}
	for r.next() != "" {
		name := r.take()
		r.take() // =
		all[name] = r.choice()
	}
	return all
}

// kinds are the parts that are tokens of a kind.
var kinds = map[string]uint8{"number": api.TokNum, "name": api.TokName, "exn": api.TokExn}

// todo is what is still to come, from the front on; nil, if nothing is.
type todo struct {
	*rule
	behind *todo
}

// heads are all ways in which what is to come may begin with a token, or end.
func heads(d *todo) []*todo {
	if d == nil {
		return []*todo{nil}
	}
	switch d.kind {
	case isWord:
		return []*todo{d}
	case isPart:
		if kinds[d.text] > 0 {
			return []*todo{d}
		}
		return heads(&todo{parts[d.text], d.behind})
	case isRow:
		behind := d.behind
		for _, r := range slices.Backward(d.of) {
			behind = &todo{r, behind}
		}
		return heads(behind)
	case isChoice:
		var all []*todo
		for _, r := range d.of {
			all = append(all, heads(&todo{r, d.behind})...)
		}
		return all
	case isMany:
		return append(heads(&todo{d.of[0], d}), heads(d.behind)...)
	}
	return append(heads(&todo{d.of[0], d.behind}), heads(d.behind)...)
}

// opens are the ways in which a text of a part may begin.
func opens(part string) []*todo { return heads(&todo{&rule{kind: isPart, text: part}, nil}) }

// goes are the ways that are left behind a token; none, if it can't stand there.
func goes(ways []*todo, x api.Token) []*todo {
	var all []*todo
	for _, d := range ways {
		if d == nil && x.Kind == api.TokEnd {
			all = append(all, nil)
		} else if d != nil && fits(d.rule, x) {
			all = append(all, heads(d.behind)...)
		}
	}
	return all
}

// fits tells whether a token is what a word or a part of tokens asks for.
func fits(r *rule, x api.Token) bool {
	if r.kind == isWord {
		return x.Text == r.text && (x.Kind == api.TokWord || x.Kind == api.TokSign)
	}
	return x.Kind == kinds[r.text]
}

// strays is the first token that can't stand in a text of a part: none of it begins so. It is -1, if there is none.
func strays(part string, l []api.Token) int {
	ways := opens(part)
	for i, x := range l {
		if ways = goes(ways, x); len(ways) == 0 {
			return i
		}
	}
	return -1
}

// tree is how tokens come of a part; a token itself has no part.
type tree struct {
	part string
	tok  api.Token
	kids []tree
}

// found is how the tokens from a place on come of a rule, and the place behind them.
type found struct {
	row []tree
	end int
}

// finder finds all ways in which tokens come of the grammar, by trying them.
type finder struct {
	l    []api.Token
	seen map[spot][]found // of parts alone: the others are soon tried again
}

// spot is a part, and where it is tried.
type spot struct {
	part string
	at   int
}

func (f *finder) find(r *rule, at int) []found {
	if r.kind != isPart {
		return f.ways(r, at)
	}
	if all, ok := f.seen[spot{r.text, at}]; ok {
		return all
	}
	all := f.ways(r, at)
	f.seen[spot{r.text, at}] = all
	return all
}

func (f *finder) ways(r *rule, at int) []found {
	switch {
	case r.kind == isWord || kinds[r.text] > 0:
		if fits(r, f.l[at]) {
			return []found{{[]tree{{tok: f.l[at]}}, at + 1}}
		}
		return nil
	case r.kind == isPart:
		var all []found
		for _, w := range f.find(parts[r.text], at) {
			all = append(all, found{[]tree{{part: r.text, kids: w.row}}, w.end})
		}
		return all
	case r.kind == isRow:
		all := []found{{nil, at}}
		for _, next := range r.of {
			all = f.after(all, next)
		}
		return all
	case r.kind == isChoice:
		var all []found
		for _, one := range r.of {
			all = append(all, f.find(one, at)...)
		}
		return all
	case r.kind == isOnce:
		return append(f.find(r.of[0], at), found{nil, at})
	}
	all := []found{{nil, at}}
	for last := all; len(last) > 0; all = append(all, last...) {
		last = f.after(last, r.of[0])
	}
	return all
}

// after goes on from each way by a rule.
func (f *finder) after(ways []found, r *rule) []found {
	var all []found
	for _, w := range ways {
		for _, next := range f.find(r, w.end) {
			all = append(all, found{slices.Concat(w.row, next.row), next.end})
		}
	}
	return all
}

// trees are all ways in which all of the tokens come of a part.
func trees(part string, l []api.Token) []tree {
	f := &finder{l, map[spot][]found{}}
	var all []tree
	for _, w := range f.find(&rule{kind: isPart, text: part}, 0) {
		if w.end == len(l)-1 {
			all = append(all, w.row[0])
		}
	}
	return all
}

// The kinds of what a word begins, and the operations.
var (
	prefixes = map[string]uint8{"!": 7, "ref": 6, "fst": 4, "snd": 5}
	ops      = map[string]uint8{"+": 1, "-": 2, "*": 3, "<": 4, "=": 5}
)

// meaning is the term of a tree, as chapter 4's table tells.
func meaning(x tree) api.Term {
	if len(x.kids) == 1 && x.kids[0].part != "" {
		return meaning(x.kids[0])
	}
	switch x.part {
	case "expr":
		return exprMeaning(x.kids)
	case "unary":
		return unaryMeaning(x.kids)
	case "apply":
		t := meaning(x.kids[0])
		for _, k := range x.kids[1:] {
			t = api.Term{Head: api.Head{Kind: 10, At: t.At}, Kids: []api.Term{t, meaning(k)}}
		}
		return t
	}
	t := meaning(x.kids[0])
	for i := 1; i < len(x.kids); i += 2 {
		h := api.Head{Kind: 9, Op: ops[x.kids[i].tok.Text], At: t.At}
		if h.Op == 0 {
			h.Kind = 8
		}
		t = api.Term{Head: h, Kids: []api.Term{t, meaning(x.kids[i+1])}}
	}
	return t
}

func exprMeaning(l []tree) api.Term {
	h := api.Head{At: l[0].tok.At}
	text := func(i int) string { return l[i].tok.Text }
	kids := func(places ...int) (all []api.Term) {
		for _, i := range places {
			all = append(all, meaning(l[i]))
		}
		return all
	}
	switch text(0) {
	case "let":
		h.Kind, h.Name = 12, text(1)
		return api.Term{Head: h, Kids: kids(3, 5)}
	case "letrec":
		h.Kind, h.Name, h.Arg = 13, text(1), text(2)
		return api.Term{Head: h, Kids: kids(4, 6)}
	case "fn":
		h.Kind, h.Arg = 11, text(1)
		return api.Term{Head: h, Kids: kids(3)}
	case "if":
		h.Kind = 14
		return api.Term{Head: h, Kids: kids(1, 3, 5)}
	}
	h.Kind, h.Exn, h.Arg = 16, text(3), text(4)
	return api.Term{Head: h, Kids: kids(1, 6)}
}

func unaryMeaning(l []tree) api.Term {
	first := l[0].tok
	h := api.Head{Kind: prefixes[first.Text], At: first.At}
	switch {
	case h.Kind > 0:
		return api.Term{Head: h, Kids: []api.Term{meaning(l[1])}}
	case first.Text == "raise":
		h.Kind, h.Exn = 15, l[1].tok.Text
		return api.Term{Head: h, Kids: []api.Term{meaning(l[2])}}
	case first.Text == "(" && len(l) == 3:
		return meaning(l[1])
	case first.Text == "(":
		h.Kind = 3
		return api.Term{Head: h, Kids: []api.Term{meaning(l[1]), meaning(l[3])}}
	case first.Kind == api.TokName:
		h.Kind, h.Name = 2, first.Text
		return api.Term{Head: h}
	}
	h.Kind = 1
	for _, c := range []byte(first.Text) {
		h.N = 10*h.N + int64(c-'0')
	}
	return api.Term{Head: h}
}

// programMeaning is the program of a tree.
func programMeaning(x tree) api.Program {
	var p api.Program
	last := len(x.kids) - 1
	for i := 1; i < last; i += 3 {
		p.Exns = append(p.Exns, x.kids[i].tok)
	}
	p.Body = meaning(x.kids[last])
	return p
}

// answer is what Parse, and Term, answer: of Term there are no exceptions.
type answer struct {
	api.Program
	at int
	e  api.Errno
}

// answerOf is what the chapter asks for a text of a part, "program" or "expr".
func answerOf(part, s string) answer {
	l, at, e := token.Lex([]byte(s))
	if e != api.OK {
		return answer{at: at, e: e}
	}
	if len(l) > 4001 {
		return answer{at: l[4000].At, e: 3}
	}
	if i := strays(part, l); i >= 0 {
		return answer{at: l[i].At, e: 2}
	}
	all := trees(part, l)
	if len(all) != 1 {
		panic("the grammar reads it in more ways than one, or in none: " + s)
	}
	if part == "program" {
		return answer{Program: programMeaning(all[0])}
	}
	return answer{Program: api.Program{Body: meaning(all[0])}}
}

// TestGrammarsReading holds the tests' own reading of the grammar against a few answers that are plain.
func TestGrammarsReading(t *testing.T) {
	if len(parts) != 8 || len(parts["expr"].of) != 6 || len(parts["unary"].of) != 5 || len(parts["sum"].of) != 1 {
		t.Fatal("the grammar isn't read as it stands", len(parts))
	}
	for _, x := range []struct {
		part, s string
		at      int
		e       api.Errno
	}{
		{"program", "exn E ; x", 0, 0}, {"expr", "exn E ; x", 0, 2}, {"expr", "x + ( y , 1 )", 0, 0}, {"expr", "x + ( y , )", 10, 2}, {"expr", "", 0, 2}, {"program", "x y z =", 7, 2},
	} {
		if got := answerOf(x.part, x.s); got.at != x.at || got.e != x.e {
			t.Errorf("the grammar's %s of %q: %d %d", x.part, x.s, got.at, got.e)
		}
	}
}
