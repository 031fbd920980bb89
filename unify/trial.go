package unify

import (
	"slices"

	"enclave/api"
)

// trial is a book over this one, on which types may be made the same, while this one stays as it is. But that variables stand within types is told to both ahead of it: if it isn't kept, there is more to be looked at later, and nothing else.
func (b *Book) trial(l ...api.Type) *Book {
	for _, t := range l {
		each(func(v int) { b.inner[b.name(v)] = true }, t.Kids...)
	}
	return &Book{under: b, vars: b.vars, stands: map[int]api.Type{}, inner: b.inner}
}

// own tells whether a variable is the trial's own, and not one of the book's under it.
func (b *Book) own(v int) bool { return v >= b.under.vars }

// opened are types as variables: for one that is none there is one of the trial's own, which stands for it. So parts that were made the same once are known by their names, and not gone through again, however many ways lead to them.
func (b *Book) opened(l ...api.Type) []api.Type {
	var vars []api.Type
	for _, t := range l {
		if t.Kind != api.TyVar {
			v := b.Fresh()
			b.stands[v.Var] = t
			t = v
		}
		vars = append(vars, t)
	}
	return vars
}

// same makes types the same, with those of their parts that have to be then. It answers which names were joined, each once, and whether no two kinds of types were to be the same.
func (b *Book) same(l ...api.Type) ([]int, bool) {
	var joined []int
	var row [][2]api.Type
	vars := b.opened(l...)
	for _, v := range vars {
		row = append(row, [2]api.Type{vars[0], v})
	}
	for len(row) > 0 {
		pair := row[len(row)-1]
		row = row[:len(row)-1]
		x, y := b.name(pair[0].Var), b.name(pair[1].Var)
		if x == y {
			continue
		}
		kids, others, can := b.one(min(x, y), max(x, y))
		if !can {
			return nil, false
		}
		for i, k := range kids {
			row = append(row, [2]api.Type{k, others[i]})
		}
		joined = append(joined, x, y)
	}
	slices.Sort(joined)
	return slices.Compact(joined), true
}

// one makes a name stand for a lower one. It answers which kids have to be the same then, one by one, and whether they don't stand for two kinds of types.
func (b *Book) one(low, high int) (kids, others []api.Type, can bool) {
	t, other := b.stand(low), b.stand(high)
	b.stands[high] = variable(low)
	if b.inner[high] {
		b.inner[low] = true
	}
	if other.Kind == 0 {
		return nil, nil, true
	}
	if t.Kind == 0 {
		b.stands[low] = other
		return nil, nil, true
	}
	t.Kids = b.opened(t.Kids...)
	b.stands[low] = t
	return t.Kids, b.opened(other.Kids...), t.Kind == other.Kind
}

// finite tells whether no variable has come to stand within itself, by what was joined. Only by way of one can it that stands within a type, and stood for nothing ahead of it.
func (b *Book) finite(joined ...int) bool {
	bound := slices.DeleteFunc(slices.Clone(joined), func(v int) bool {
		return b.own(v) || b.under.stand(v).Kind != 0 || !b.inner[v]
	})
	_, finite := b.within(b.vars, bound...)
	return finite
}

// keep tells the book under a trial what those that were joined stand for.
func (b *Book) keep(joined ...int) {
	for _, v := range joined {
		if t := b.stand(v); t.Kind != 0 && !b.own(v) {
			b.under.stands[v] = b.whole(t)
		}
	}
}

// whole is a type, in new memory, with what the trial's own variables stand for in their places.
func (b *Book) whole(t api.Type) api.Type {
	if t.Kind == api.TyVar {
		v := b.name(t.Var)
		if !b.own(v) {
			return variable(v)
		}
		t = b.stand(v)
	}
	var kids []api.Type
	for _, k := range t.Kids {
		kids = append(kids, b.whole(k))
	}
	t.Kids = kids
	return t
}
