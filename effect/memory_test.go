package effect_test

import (
	"fmt"
	"reflect"
	"slices"
	"testing"

	"enclave/api"
	"enclave/effect"
)

// roomy is a list with room behind its end, in which something stands that must neither change nor count.
func roomy[T any](l []T, behind ...T) []T { return append(slices.Clone(l), behind...)[:len(l)] }

// room is a list with all that stands behind its end.
func room[T any](l []T) []T { return l[:cap(l)] }

// given is all that a call may be handed in, with room behind each list's end.
type given struct {
	a, b     []api.Atom
	of       [][]api.Atom
	from, to []int
	exns     []string
}

// givenOf are some of these: of rising lists, which nothing would have to be done to, and of mixed ones.
func givenOf(mixed bool) given {
	g := given{
		a:    []api.Atom{get(0), get(2), put(1), exn("A"), exn("B")},
		b:    []api.Atom{get(0), get(1), get(2), put(1), exn("A"), exn("B")},
		from: []int{1, 2}, to: []int{3, 4}, exns: []string{"A", "C"},
	}
	if mixed {
		g.a = []api.Atom{exn("B"), get(2), put(1), get(2), {Kind: 1, Rho: -1}, exn("A"), get(0), exn("a")}
		g.b = []api.Atom{{}, exn("A"), exn("B"), get(1), put(1), get(2), get(0), get(1)}
		g.from, g.to, g.exns = []int{2, 1, 1}, []int{1, 2}, []string{"C", "B", "A", ""}
	}
	g.a = roomy(g.a, put(9), exn("C"), get(1), get(0))
	g.b = roomy(g.b, get(7), exn("D"), put(0))
	g.from, g.to, g.exns = roomy(g.from, 0, 5), roomy(g.to, 7, 8, 9), roomy(g.exns, "B", "A")
	g.of = roomy([][]api.Atom{g.a, nil, g.b}, []api.Atom{put(8)}, g.a)
	return g
}

// whole is all of what is given, with the room.
func (g given) whole() []any {
	all := []any{slices.Clone(room(g.a)), slices.Clone(room(g.b)), slices.Clone(room(g.from)), slices.Clone(room(g.to)), slices.Clone(room(g.exns)), len(g.of)}
	for _, l := range room(g.of) {
		all = append(all, slices.Clone(l), len(l))
	}
	return all
}

// answers are all that the calls answer of what is given.
func answers(g given) []any {
	return []any{
		effect.Atom(g.a...), effect.May(g.a), effect.Within(g.a, g.b), effect.Same(g.a, g.b), effect.Same(g.a, g.a), effect.Text(g.a),
		effect.Of(g.a...), effect.Union(g.of...), effect.Union(g.a), effect.Union(nil, g.a), effect.Union(g.a, nil), effect.Rhos(g.of...), effect.Rhos(g.a), effect.Exns(g.of...), effect.Exns(g.a),
		effect.Without(g.a, g.from...), effect.Without(g.a), effect.Without(g.a, 99), effect.Handled(g.a, g.exns...), effect.Handled(g.a), effect.Handled(g.a, "Other"),
		effect.Swap(g.a, g.from, g.to), effect.Swap(g.a, nil, nil), effect.Swap(g.a, g.to, g.to),
	}
}

// tight is what is given, without room: what is to be answered comes of this.
func (g given) tight() given {
	return given{
		a: slices.Clip(slices.Clone(g.a)), b: slices.Clip(slices.Clone(g.b)), of: slices.Clip(slices.Clone(g.of)),
		from: slices.Clip(slices.Clone(g.from)), to: slices.Clip(slices.Clone(g.to)), exns: slices.Clip(slices.Clone(g.exns)),
	}
}

// scribble writes into a list, and into the room behind its end.
func scribble(answer any) {
	switch l := answer.(type) {
	case []api.Atom:
		for i := range room(l) {
			room(l)[i] = api.Atom{Kind: 77, Rho: -7, Exn: "written"}
		}
	case []int:
		for i := range room(l) {
			room(l)[i] = -77
		}
	case []string:
		for i := range room(l) {
			room(l)[i] = "written"
		}
	}
}

func TestArgumentsStay(t *testing.T) {
	for _, mixed := range []bool{false, true} {
		g := givenOf(mixed)
		before, want := g.whole(), fmt.Sprint(answers(g.tight()))
		for range 2 { // what was asked ahead counts for nothing
			if got := fmt.Sprint(answers(g)); got != want {
				t.Errorf("P0.4: with room behind lists' ends: %s, want %s", got, want)
			}
			if !reflect.DeepEqual(g.whole(), before) {
				t.Fatal("P0.4: what was handed in is changed")
			}
		}
	}
}

func TestAnswersAreNewMemory(t *testing.T) {
	for _, mixed := range []bool{false, true} {
		g := givenOf(mixed)
		before := g.whole()
		first, second := answers(g), answers(g)
		want := fmt.Sprint(second)
		for i := range first {
			others := fmt.Sprint(first[i+1:])
			scribble(first[i])
			if !reflect.DeepEqual(g.whole(), before) {
				t.Fatal("P0.4: what is written into an answer changes what was handed in, of the answer", i)
			}
			if fmt.Sprint(first[i+1:]) != others || fmt.Sprint(second) != want {
				t.Fatal("P0.4: what is written into an answer changes another one, of the answer", i)
			}
		}
		if fmt.Sprint(answers(g)) != want {
			t.Error("P0.4, P0.6: what is written into an answer changes a later one")
		}
		for _, l := range []any{g.a, g.b, g.from, g.to, g.exns} {
			scribble(l)
		}
		if fmt.Sprint(second) != want {
			t.Error("P0.4: what was handed in is kept")
		}
	}
}

// TestSameListTwice hands in one list as several arguments.
func TestSameListTwice(t *testing.T) {
	l := roomy([]api.Atom{exn("B"), get(2), put(1), get(2)}, get(0), get(1))
	e := []api.Atom{get(2), put(1), exn("B")}
	if !effect.Within(l, l) || !effect.Same(l, l) || !effect.Within(l[:2], l) || effect.Within(l, l[:2]) || !same(effect.Union(l, l[1:], l), e) || !same(effect.Union(l[:2], l[2:]), e) {
		t.Error("P11.1: one list twice, and pieces of it")
	}
	rhos := []int{1, 2}
	isEffect(t, "Swap of regions with themselves", effect.Swap(l, rhos, rhos), e)
	isEffect(t, "Swap of pieces of one list", effect.Swap(l, rhos[:1], rhos[1:]), []api.Atom{get(2), put(2), exn("B")})
	if !same(rhos, []int{1, 2}) || !same(room(l)[:6], []api.Atom{exn("B"), get(2), put(1), get(2), get(0), get(1)}) {
		t.Error("P0.4: what was handed in is changed")
	}
}

// TestOfWhatIsAnswered asks of answers what holds of effects: what is said to be one is taken as it is.
func TestOfWhatIsAnswered(t *testing.T) {
	for _, l := range lists(few(), 3) {
		e := effect.Of(l...)
		for _, other := range [][]api.Atom{effect.Of(e...), effect.Union(e), effect.Union(e, l, nil), effect.Without(e), effect.Handled(e), effect.Swap(e, nil, nil), effect.Swap(e, effect.Rhos(e), effect.Rhos(e)), effect.Swap(effect.Swap(e, []int{0, 1, 2}, []int{10, 11, 12}), []int{10, 11, 12}, []int{0, 1, 2})} {
			isEffect(t, fmt.Sprint("the same again, of ", l), other, e)
		}
		if got := effect.Without(e, effect.Rhos(e)...); len(effect.Rhos(got)) != 0 || !same(effect.Exns(got), effect.Exns(e)) {
			t.Fatalf("P11.1: without all regions of %v: %v", e, got)
		}
		if got := effect.Handled(e, effect.Exns(e)...); len(effect.Exns(got)) != 0 || !same(effect.Rhos(got), effect.Rhos(e)) {
			t.Fatalf("P11.1: without all exceptions of %v: %v", e, got)
		}
	}
}
