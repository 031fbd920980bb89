package basis

import "slices"

// names are numbers from 0 on. At the name of those that are one the name itself stands, at each other one a lesser one of them.
type names []int

// another is one more number.
func (s *names) another() int {
	*s = append(*s, len(*s))
	return len(*s) - 1
}

// has tells whether there are all of these.
func (s names) has(l ...int) bool {
	return !slices.ContainsFunc(l, func(n int) bool { return n < 0 || n >= len(s) })
}

// name is a number's name; -1, if there is no such one.
func (s names) name(n int) int {
	if !s.has(n) {
		return -1
	}
	for s[n] != n {
		// A long way to the name is halved each time that it is gone.
		s[n] = s[s[n]]
		n = s[n]
	}
	return n
}

// all are the names of those of a list that there are, rising, each once.
func (s names) all(l ...int) []int {
	var all []int
	for _, n := range l {
		if s.has(n) {
			all = append(all, s.name(n))
		}
	}
	slices.Sort(all)
	return slices.Compact(all)
}

// join lets numbers be one, if there are all of these.
func (s names) join(l ...int) bool {
	if !s.has(l...) {
		return false
	}
	all := s.all(l...)
	for _, n := range all {
		s[n] = all[0]
	}
	return true
}
