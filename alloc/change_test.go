package alloc

import (
	"slices"
	"testing"

	"teasel/api"
)

// TestWhoIsSeatedStaysSo: where more clash than there are registers, as they never do that have seats there, all stay where they sit.
func TestWhoIsSeatedStaysSo(t *testing.T) {
	s := newSeating(api.Fun{Vals: 20}, false)
	for v := range registers {
		s.sit(v)
	}
	s.seats[registers] = 5
	for v := range registers {
		s.pairs = append(s.pairs, [2]int{v, registers})
	}
	before := slices.Clone(s.seats)
	s.change()
	if !slices.Equal(s.seats, before) {
		t.Errorf("%v became %v", before, s.seats)
	}
	s.pairs = s.pairs[:len(s.pairs)-1]
	s.change()
	if s.seats[registers] != s.seats[registers-1] {
		t.Errorf("%v", s.seats)
	}
}
