package scope_test

import (
	"slices"
	"strings"

	"enclave/api"
)

// bound is chapter 7's sentence, word for word but for the remark on which of two same names counts: what the tests ask comes of this, not of the program's own reading of it.
const bound = `by KFn, its Arg, in its kid; by KLet, its Name, in its second kid; by KLetrec, its Name, in both kids, and its Arg, in the first one; by KTry, its Arg, in its second kid`

// kindRow is a line of chapter 4's table: a kind, its fields, and how many kids it has.
type kindRow struct {
	name   string
	kind   uint8
	fields string
	kids   int
}

// kindRows are all kinds.
var kindRows = []kindRow{
	{"KNum", 1, "N", 0}, {"KVar", 2, "Name", 0}, {"KPair", 3, "", 2}, {"KFst", 4, "", 1}, {"KSnd", 5, "", 1}, {"KRef", 6, "", 1}, {"KGet", 7, "", 1}, {"KSet", 8, "", 2},
	{"KOp", 9, "Op", 2}, {"KApp", 10, "", 2}, {"KFn", 11, "Arg", 1}, {"KLet", 12, "Name", 2}, {"KLetrec", 13, "Name Arg", 2}, {"KIf", 14, "", 3}, {"KRaise", 15, "Exn", 1}, {"KTry", 16, "Exn Arg", 2},
}

// binding is that a kind binds a field in one of its kids.
type binding struct {
	kind  uint8
	field string
	kid   int
}

// bindings are what the sentence tells.
var bindings = readBindings()

func readBindings() []binding {
	var l []binding
	for _, part := range strings.Split(bound, "; ") {
		kind, fields, _ := strings.Cut(strings.TrimPrefix(part, "by "), ", ")
		row := kindRows[slices.IndexFunc(kindRows, func(r kindRow) bool { return r.name == kind })]
		for _, f := range strings.Split(fields, ", and ") {
			field, kids, _ := strings.Cut(f, ", in ")
			first, behind := 0, 1
			switch kids {
			case "both kids":
				behind = 2
			case "its second kid":
				first, behind = 1, 2
			}
			for i := first; i < behind; i++ {
				l = append(l, binding{row.kind, strings.TrimPrefix(field, "its "), i})
			}
		}
	}
	return l
}

// placed is a node, and above it the one whose kid it is, which may be none.
type placed struct {
	api.Term
	above *placed
	kid   int
}

// nodes are the nodes of terms, each ahead of its kids, in order.
func nodes(l ...api.Term) []*placed {
	var all []*placed
	var row []*placed
	for _, t := range l {
		row = append(row, &placed{Term: t})
	}
	for len(row) > 0 {
		p := row[0]
		all = append(all, p)
		var kids []*placed
		for i, k := range p.Kids {
			kids = append(kids, &placed{k, p, i})
		}
		row = append(kids, row[1:]...)
	}
	return all
}

// isFree tells whether a node is a name that nothing above it binds.
func (p *placed) isFree() bool {
	if p.Kind != 2 {
		return false
	}
	for q := p; q.above != nil; q = q.above {
		for _, b := range bindings {
			if b.kind == q.above.Kind && b.kid == q.kid && field(q.above.Head, b.field) == p.Name {
				return false
			}
		}
	}
	return true
}

func field(h api.Head, name string) string {
	if name == "Name" {
		return h.Name
	}
	return h.Arg
}

// freeOf and exnsOf are what Free and Exns are to answer, and closedOf what Closed, for programs of terms that may be.
func freeOf(l ...api.Term) []string {
	var found []string
	for _, p := range nodes(l...) {
		if p.isFree() && !slices.Contains(found, p.Name) {
			found = append(found, p.Name)
		}
	}
	return found
}

func exnsOf(l ...api.Term) []string {
	var found []string
	for _, p := range nodes(l...) {
		if (p.Kind == 15 || p.Kind == 16) && !slices.Contains(found, p.Exn) {
			found = append(found, p.Exn)
		}
	}
	return found
}

func closedOf(p api.Program) (int, api.Errno) {
	declared := map[string]bool{}
	for i, x := range p.Exns {
		if i == 64 {
			return x.At, 3
		}
		declared[x.Text] = true
	}
	seen := map[string]bool{}
	for _, x := range p.Exns {
		if seen[x.Text] {
			return x.At, 4
		}
		seen[x.Text] = true
	}
	for _, n := range nodes(p.Body) {
		if n.isFree() || (n.Kind == 15 || n.Kind == 16) && !declared[n.Exn] {
			return n.At, 4
		}
	}
	return 0, 0
}
