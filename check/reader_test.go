package check_test

import (
	"math"
	"strconv"
	"strings"
	"testing"

	"enclave/api"
	"enclave/display"
	"enclave/rtype"
)

// reader reads terms as chapter 14 writes them, each node at the place of its first word.
type reader struct {
	words []string
	at    int
}

// read is the term of a text.
func read(t *testing.T, text string) api.ATerm {
	t.Helper()
	r := &reader{words: strings.Split(text, " ")}
	x := r.term()
	if back, _ := display.Term(x); back != text {
		t.Fatalf("not read: %q, but as %q", text, back)
	}
	return x
}

// readType is the type of a text.
func readType(t *testing.T, text string) api.RType {
	t.Helper()
	r := &reader{words: strings.Split(text, " ")}
	y := r.typ()
	if back, _ := rtype.Text(y); back != text {
		t.Fatalf("not read: %q, but as %q", text, back)
	}
	return y
}

// peek is the word that is so many behind the next one.
func (r *reader) peek(behind int) string {
	if r.at+behind >= len(r.words) {
		return ""
	}
	return r.words[r.at+behind]
}

// next is the next word, which is gone then.
func (r *reader) next() string {
	r.at++
	return r.peek(-1)
}

// skip are words that go.
func (r *reader) skip(words int) { r.at += words }

func (r *reader) number() int {
	n, _ := strconv.Atoi(r.next())
	return n
}

// isNumber tells whether a word is a number.
func isNumber(s string) bool { return s != "" && s[0] >= '0' && s[0] <= '9' }

func (r *reader) term() api.ATerm {
	t := api.ATerm{Head: api.Head{At: r.at}}
	switch s := r.next(); {
	case isNumber(s):
		n, _ := strconv.ParseInt(s, 10, 64)
		t.Kind, t.N = 1, min(n, math.MaxInt32)
	case s == "(":
		r.inner(&t)
	default:
		t.Kind, t.Name = 2, s
	}
	return t
}

// inner reads a term on behind its bracket.
func (r *reader) inner(t *api.ATerm) {
	kinds := map[string]uint8{"fst": 4, "snd": 5, "ref": 6, "!": 7, "fn": 11, "let": 12, "letrec": 13, "if": 14, "raise": 15, "try": 16, "region": 17}
	t.Kind = kinds[r.peek(0)]
	switch {
	case t.Kind != 0:
		r.skip(1)
		r.marked(t)
	case r.peek(1) == "[":
		t.Kind, t.Name = 18, r.next()
		t.Rhos = r.rhos()
		r.eff(&t.Eff)
	default:
		r.two(t)
	}
	if r.peek(0) == "@" {
		r.skip(1)
		t.Rho = r.number()
	}
	r.skip(1)
}

// two reads a term whose first kid stands ahead of what tells its kind.
func (r *reader) two(t *api.ATerm) {
	ops := map[string]uint8{"+": 1, "-": 2, "*": 3, "<": 4, "=": 5}
	r.kid(t)
	switch s := r.peek(0); {
	case s == ",":
		t.Kind = 3
		r.skip(1)
	case s == ":=":
		t.Kind = 8
		r.skip(1)
	case ops[s] != 0:
		t.Kind, t.Op = 9, ops[s]
		r.skip(1)
	default:
		t.Kind = 10
	}
	r.kid(t)
}

// kid reads a kid behind some words that only mark it.
func (r *reader) kid(t *api.ATerm) { t.Kids = append(t.Kids, r.term()) }

// marked reads a term whose kind a word tells, behind that word.
func (r *reader) marked(t *api.ATerm) {
	switch t.Kind {
	case 11:
		t.Arg = r.next()
		r.skip(1)
		t.Type = r.typ()
		r.eff(&t.Eff)
		r.skip(1)
	case 12:
		t.Name = r.next()
		r.skip(1)
		r.kid(t)
		r.skip(1)
	case 13:
		t.Name = r.next()
		t.Rhos = r.rhos()
		t.Arg = r.next()
		r.skip(1)
		t.Type = r.typ()
		r.skip(1)
		t.Res = r.typ()
		r.eff(&t.Eff)
		r.skip(1)
		r.kid(t)
		r.skip(1)
		t.Rho = r.number()
		r.skip(1)
	case 14:
		r.kid(t)
		r.skip(1)
		r.kid(t)
		r.skip(1)
	case 15:
		t.Exn = r.next()
		r.kid(t)
		r.skip(1)
		t.Type = r.typ()
		return
	case 16:
		r.kid(t)
		r.skip(1)
		t.Exn, t.Arg = r.next(), r.next()
		r.skip(1)
	case 17:
		t.Rho = r.number()
		r.skip(1)
	}
	r.kid(t)
}

// rhos reads regions within their brackets.
func (r *reader) rhos() []int {
	var l []int
	for r.skip(1); r.peek(0) != "]"; {
		l = append(l, r.number())
	}
	r.skip(1)
	return l
}

// eff reads an effect behind its mark.
func (r *reader) eff(e *[]api.Atom) {
	r.skip(1)
	kinds := map[string]uint8{"get": 1, "put": 2, "exn": 3}
	for r.next() != "none" {
		a := api.Atom{Kind: kinds[r.peek(-1)]}
		if a.Kind == 3 {
			a.Exn = r.next()
		} else {
			a.Rho = r.number()
		}
		*e = append(*e, a)
		if r.peek(0) != "," {
			return
		}
		r.skip(1)
	}
}

func (r *reader) typ() api.RType {
	if r.next() == "int" {
		return api.RType{Kind: 1}
	}
	var y api.RType
	if r.peek(0) == "ref" {
		r.skip(1)
		y = api.RType{Kind: 3, Kids: []api.RType{r.typ()}}
	} else {
		a := r.typ()
		y.Kind = map[string]uint8{"*": 2, "->": 4}[r.next()]
		y.Kids = []api.RType{a, r.typ()}
	}
	if y.Kind == 4 {
		r.eff(&y.Eff)
	}
	r.skip(1)
	y.Rho = r.number()
	r.skip(1)
	return y
}
