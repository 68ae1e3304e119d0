package types

import "teasel/api"

// set is a set of variables, by their numbers.
type set = map[int]struct{}

// scope is the variables of a function: all that it has had so far, and those of them that are seen, and sure, where the checker is.
type scope struct {
	vars    []api.Var
	numbers map[string]int
	seen    set
	sure    set
}

func newScope() scope {
	return scope{numbers: map[string]int{}, seen: set{}, sure: set{}}
}

// add makes a variable that is seen from here on, and answers its number.
func (s *scope) add(v api.Var) int {
	n := len(s.vars)
	s.vars = append(s.vars, v)
	s.numbers[v.Name] = n
	s.seen[n] = struct{}{}
	return n
}

// had tells whether a name was the function's already, seen or not.
func (s *scope) had(name string) bool {
	_, ok := s.numbers[name]
	return ok
}

// leave forgets the variables from a number on: the block of their lets is over.
func (s *scope) leave(first int) {
	for n := first; n < len(s.vars); n++ {
		delete(s.seen, n)
		delete(s.sure, n)
	}
}

// rising answers the numbers of a set.
func (s *scope) rising(of set) []int {
	var l []int
	for n := range s.vars {
		if _, ok := of[n]; ok {
			l = append(l, n)
		}
	}
	return l
}

// visible answers the number of the variable of a name that must be seen.
func (s *scope) visible(name string, at int) int {
	n, ok := s.numbers[name]
	if ok {
		_, ok = s.seen[n]
	}
	if !ok {
		giveUp(at, api.ErrName)
	}
	return n
}

// array holds a name against being that of an array that is seen.
func (s *scope) array(name string, at int) {
	if s.vars[s.visible(name, at)].Type != api.TArr {
		giveUp(at, api.ErrType)
	}
}

// meet keeps of a set only what the other one has, too.
func meet(one, other set) {
	for n := range one {
		if _, ok := other[n]; !ok {
			delete(one, n)
		}
	}
}
