package display_test

import (
	"math"
	"slices"
	"strconv"
	"strings"

	"enclave/api"
	"enclave/words"
)

// reader reads texts back by the chapters' tables alone: all terms, types and effects, each without places, of which a text may be, and where they end.
type reader struct {
	words []string
	terms map[int][]read
	types map[int][]readType
}

type read struct {
	t   api.ATerm
	end int
}

type readType struct {
	t   api.RType
	end int
}

type readEff struct {
	e   []api.Atom
	end int
}

// readings are all terms that have a text.
func readings(text string) []api.ATerm {
	r := reader{strings.Split(text, " "), map[int][]read{}, map[int][]readType{}}
	var l []api.ATerm
	for _, x := range r.termsAt(0) {
		if x.end == len(r.words) {
			l = append(l, x.t)
		}
	}
	return l
}

// word is the word at a place; behind the end it is none.
func (r *reader) word(at int) string {
	if at >= len(r.words) {
		return ""
	}
	return r.words[at]
}

// termsAt are the terms that begin at a place.
func (r *reader) termsAt(at int) []read {
	if l, known := r.terms[at]; known {
		return l
	}
	var l []read
	for _, row := range kindRows {
		own := read{api.ATerm{Head: api.Head{Kind: row.kind, Op: row.op}}, at}
		l = append(l, r.rest(row, row.words, own)...)
	}
	r.terms[at] = l
	return l
}

// rest reads the words of a row that are left on.
func (r *reader) rest(row kindRow, left []string, own read) []read {
	if len(left) == 0 {
		return []read{own}
	}
	var l []read
	for _, x := range r.one(row.kind, left[0], own) {
		l = append(l, r.rest(row, left[1:], x)...)
	}
	return l
}

// one reads what one word of a row stands for.
func (r *reader) one(kind uint8, word string, own read) []read {
	here := r.word(own.end)
	next := own
	next.end++
	rho, isRho := readRho(here)
	switch f := field(kind, word); {
	case word == "r1" || word == "r2" || word == "..":
		return r.rhosAt(own, word)
	case f == "N" && isRho && rho <= api.MaxLit:
		next.t.N = int64(rho)
	case f == "Rho" && isRho:
		next.t.Rho = rho
	case f == "Name" && words.Name(here):
		next.t.Name = here
	case f == "Arg" && words.Name(here):
		next.t.Arg = here
	case f == "Exn" && words.Exn(here):
		next.t.Exn = here
	case f == "" && here == word:
	case f == "Eff":
		return r.effAt(own)
	case f == "Type" || f == "Res":
		return r.typeAt(own, f)
	case f >= "0" && f <= "9":
		return r.kidAt(own)
	default:
		return nil
	}
	return []read{next}
}

// readRho is a number from 0 on, and whether a word is one.
func readRho(word string) (int, bool) {
	n, err := strconv.ParseUint(word, 10, 64)
	return int(n), err == nil && n <= math.MaxInt && strconv.FormatUint(n, 10) == word
}

// rhosAt reads all regions where the first of them stands; behind it there is nothing left for the words that tell that there may be more.
func (r *reader) rhosAt(own read, word string) []read {
	if word != "r1" {
		return []read{own}
	}
	l := []read{own}
	for {
		rho, is := readRho(r.word(own.end))
		if !is {
			return l
		}
		own.end++
		own.t.Rhos = append(slices.Clone(own.t.Rhos), rho)
		l = append(l, own)
	}
}

func (r *reader) kidAt(own read) []read {
	var l []read
	for _, k := range r.termsAt(own.end) {
		x := own
		x.t.Kids, x.end = append(slices.Clone(own.t.Kids), k.t), k.end
		l = append(l, x)
	}
	return l
}

func (r *reader) effAt(own read) []read {
	var l []read
	for _, e := range r.effsAt(own.end) {
		x := own
		x.t.Eff, x.end = e.e, e.end
		l = append(l, x)
	}
	return l
}

func (r *reader) typeAt(own read, field string) []read {
	var l []read
	for _, y := range r.typesAt(own.end) {
		x := own
		if x.end = y.end; field == "Type" {
			x.t.Type = y.t
		} else {
			x.t.Res = y.t
		}
		l = append(l, x)
	}
	return l
}

// effsAt are the effects that begin at a place, as chapter 11 writes them.
func (r *reader) effsAt(at int) []readEff {
	if r.word(at) == "none" {
		return []readEff{{nil, at + 1}}
	}
	var l []readEff
	var e []api.Atom
	for {
		a := api.Atom{}
		word := r.word(at + 1)
		rho, isRho := readRho(word)
		switch r.word(at) {
		case "get":
			a = api.Atom{Kind: api.AtGet, Rho: rho}
		case "put":
			a = api.Atom{Kind: api.AtPut, Rho: rho}
		case "exn":
			a = api.Atom{Kind: api.AtExn, Exn: word}
			isRho = words.Exn(word)
		}
		if a.Kind == 0 || !isRho {
			return l
		}
		e = append(slices.Clone(e), a)
		l = append(l, readEff{e, at + 2})
		if r.word(at+2) != "," {
			return l
		}
		at += 3
	}
}

// typesAt are the types that begin at a place, as chapter 12 writes them: int; ( A * B @ r ); ( ref A @ r ); ( A -> B ! E @ r ).
func (r *reader) typesAt(at int) []readType {
	if l, known := r.types[at]; known {
		return l
	}
	var l []readType
	switch {
	case r.word(at) == "int":
		l = append(l, readType{api.RType{Kind: api.TyInt}, at + 1})
	case r.word(at) == "(" && r.word(at+1) == "ref":
		for _, a := range r.typesAt(at + 2) {
			l = append(l, r.closed(api.RType{Kind: api.TyRef, Kids: []api.RType{a.t}}, a.end)...)
		}
	case r.word(at) == "(":
		for _, a := range r.typesAt(at + 1) {
			for _, b := range r.typesAt(a.end + 1) {
				kids := []api.RType{a.t, b.t}
				switch r.word(a.end) {
				case "*":
					l = append(l, r.closed(api.RType{Kind: api.TyPair, Kids: kids}, b.end)...)
				case "->":
					l = append(l, r.closedFn(kids, b.end)...)
				}
			}
		}
	}
	r.types[at] = l
	return l
}

// closedFn reads a function's type on behind its kids.
func (r *reader) closedFn(kids []api.RType, at int) []readType {
	if r.word(at) != "!" {
		return nil
	}
	var l []readType
	for _, e := range r.effsAt(at + 1) {
		l = append(l, r.closed(api.RType{Kind: api.TyFn, Eff: e.e, Kids: kids}, e.end)...)
	}
	return l
}

// closed reads a type's region, and its end.
func (r *reader) closed(t api.RType, at int) []readType {
	rho, is := readRho(r.word(at + 1))
	if r.word(at) != "@" || !is || r.word(at+2) != ")" {
		return nil
	}
	t.Rho = rho
	return []readType{{t, at + 3}}
}
