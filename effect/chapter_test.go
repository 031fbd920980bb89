package effect_test

import (
	"fmt"
	"regexp"
	"slices"
	"sort"
	"strconv"
	"strings"

	"enclave/api"
)

// What chapter 11 says of atoms and texts, word for word: what the tests ask comes of this, not of the program's own reading of it.
const (
	atomsTold = `AtGet (1) or AtPut (2) of a region, a number Rho from 0 on, without Exn; or AtExn (3) of an exception's name (2), with Rho 0`
	textsTold = `get or put and the region's number, or exn and the name`
)

// kindRow is what the chapter tells of a kind of atoms.
type kindRow struct {
	name   string
	kind   uint8
	region bool // it is of a region; else of an exception
	word   string
}

// kindRows are all kinds.
var kindRows = readKinds()

func readKinds() []kindRow {
	var rows []kindRow
	texts := regexp.MustCompile(`\b(?:get|put|exn)\b`).FindAllString(textsTold, -1)
	regional, _, _ := strings.Cut(atomsTold, ";")
	for i, m := range regexp.MustCompile(`(At\w+) \((\d)\)`).FindAllStringSubmatch(atomsTold, -1) {
		kind, _ := strconv.Atoi(m[2])
		rows = append(rows, kindRow{m[1], uint8(kind), strings.Contains(regional, m[1]), texts[i]})
	}
	return rows
}

// rowOf is the row of a kind, and whether there is one.
func rowOf(kind uint8) (kindRow, bool) {
	i := slices.IndexFunc(kindRows, func(r kindRow) bool { return r.kind == kind })
	if i < 0 {
		return kindRow{}, false
	}
	return kindRows[i], true
}

// exnName is what chapter 2 tells of an exception's name.
var exnName = regexp.MustCompile(`\A[A-Z][a-zA-Z0-9]{0,15}\z`)

// atomOf tells whether it is an atom.
func atomOf(a api.Atom) bool {
	row, is := rowOf(a.Kind)
	if !is {
		return false
	}
	if row.region {
		return a.Rho >= 0 && a.Exn == ""
	}
	return a.Rho == 0 && exnName.MatchString(a.Exn)
}

// regionOf and exnOf are the region, and the exception, of an atom, and whether it has one.
func regionOf(a api.Atom) (int, bool) {
	row, _ := rowOf(a.Kind)
	return a.Rho, row.region
}

func exnOf(a api.Atom) (string, bool) {
	row, _ := rowOf(a.Kind)
	return a.Exn, !row.region
}

// key is a text of an atom that is ordered among others' byte by byte as the atom is among the others.
func key(a api.Atom) string { return fmt.Sprintf("%d %020d %s", a.Kind, a.Rho, a.Exn) }

// atoms are atoms, each once, by their keys.
type atoms map[string]api.Atom

// atomsOf are those of lists that are atoms.
func atomsOf(lists ...[]api.Atom) atoms {
	set := atoms{}
	for _, l := range lists {
		for _, a := range l {
			if atomOf(a) {
				set[key(a)] = a
			}
		}
	}
	return set
}

// effect is the effect of atoms.
func (set atoms) effect() []api.Atom {
	var keys []string
	for k := range set {
		keys = append(keys, k)
	}
	sort.Strings(keys)
	var e []api.Atom
	for _, k := range keys {
		e = append(e, set[k])
	}
	return e
}

// effectOf, mayOf, withinOf, rhosOf, exnsOf, withoutOf, handledOf, swapOf and textOf are what the calls are to answer.
func effectOf(lists ...[]api.Atom) []api.Atom { return atomsOf(lists...).effect() }

func mayOf(e []api.Atom) bool {
	for i, a := range e {
		if !atomOf(a) || i > 0 && key(e[i-1]) >= key(a) {
			return false
		}
	}
	return true
}

func withinOf(a, b []api.Atom) bool {
	set := atomsOf(b)
	for k := range atomsOf(a) {
		if _, is := set[k]; !is {
			return false
		}
	}
	return true
}

func rhosOf(lists ...[]api.Atom) []int {
	met := map[int]bool{}
	for _, a := range atomsOf(lists...) {
		if r, is := regionOf(a); is {
			met[r] = true
		}
	}
	var l []int
	for r := range met {
		l = append(l, r)
	}
	sort.Ints(l)
	return l
}

func exnsOf(lists ...[]api.Atom) []string {
	met := map[string]bool{}
	for _, a := range atomsOf(lists...) {
		if x, is := exnOf(a); is {
			met[x] = true
		}
	}
	var l []string
	for x := range met {
		l = append(l, x)
	}
	sort.Strings(l)
	return l
}

func withoutOf(e []api.Atom, rhos []int) []api.Atom {
	set := atomsOf(e)
	for k, a := range set {
		for _, rho := range rhos {
			if r, is := regionOf(a); is && r == rho {
				delete(set, k)
			}
		}
	}
	return set.effect()
}

func handledOf(e []api.Atom, exns []string) []api.Atom {
	set := atomsOf(e)
	for k, a := range set {
		for _, exn := range exns {
			if x, is := exnOf(a); is && x == exn {
				delete(set, k)
			}
		}
	}
	return set.effect()
}

func swapOf(e []api.Atom, from, to []int) []api.Atom {
	instead := map[int]int{}
	for i := len(from) - 1; i >= 0; i-- { // the first one is written last
		delete(instead, from[i])
		if i < len(to) {
			instead[from[i]] = to[i]
		}
	}
	var l []api.Atom
	for _, a := range atomsOf(e) {
		if r, is := regionOf(a); is {
			if other, is := instead[r]; is {
				a.Rho = other
			}
		}
		l = append(l, a)
	}
	return effectOf(l)
}

func textOf(e []api.Atom) string {
	var w []string
	for _, a := range effectOf(e) {
		row, _ := rowOf(a.Kind)
		if len(w) > 0 {
			w = append(w, ",")
		}
		if row.region {
			w = append(w, row.word, strconv.FormatUint(uint64(a.Rho), 10))
		} else {
			w = append(w, row.word, a.Exn)
		}
	}
	if len(w) == 0 {
		w = append(w, "none")
	}
	return strings.Join(w, " ")
}
