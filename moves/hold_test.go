package moves_test

import (
	"fmt"
	"reflect"
	"slices"
	"testing"

	"teasel/api"
	"teasel/moves"
)

const spare = 1000000

// list answers moves from numbers, two by two: To, From.
func list(l ...int) []moves.Move {
	var out []moves.Move
	for i := 0; i < len(l); i += 2 {
		out = append(out, moves.Move{To: l[i], From: l[i+1]})
	}
	return out
}

// oracle answers how many moves a list needs, and how many circles it has: it goes from each place on to the one from which it gets what it will have, until it comes back, or to an end.
func oracle(l []moves.Move) (int, int) {
	from := map[int]int{}
	for _, m := range l {
		from[m.To] = m.From
	}
	needed, circles := 0, 0
	for _, m := range l {
		if m.To == m.From {
			continue
		}
		needed++
		least := m.To
		at := m.From
		for range len(l) {
			next, is := from[at]
			if at == m.To || !is {
				break
			}
			least = min(least, at)
			at = next
		}
		// Of each circle the least place is counted.
		if at == m.To && least == m.To {
			circles++
		}
	}
	return needed + circles, circles
}

// hold holds the order of a list by what the chapter asks; it answers it.
func hold(t *testing.T, l []moves.Move, spare int) []moves.Move {
	t.Helper()
	before := slices.Clone(l)
	got, e := moves.Order(l, spare)
	if e != api.OK {
		t.Fatalf("Order answers %d of %s", e, told(l))
	}
	if !slices.Equal(l, before) {
		t.Fatalf("Order changes %s: %s", told(before), told(l))
	}
	needed, circles := oracle(l)
	if len(got) != needed {
		t.Fatalf("%d moves, want %d, of %s: %s", len(got), needed, told(l), told(got))
	}
	if n := moves.Circles(l); n != circles {
		t.Fatalf("%d circles, want %d, in %s", n, circles, told(l))
	}
	if s := wrong(l, got, spare, circles); s != "" {
		t.Fatalf("%s: %s, of %s", s, told(got), told(l))
	}
	return got
}

func told(x any) string {
	s := fmt.Sprintf("%v", x)
	return s[:min(len(s), 2000)]
}

// wrong tells what moves, done one by one, don't leave as it must be. At first each place has its own number.
func wrong(l, got []moves.Move, spare, circles int) string {
	has := map[int]int{}
	for _, m := range slices.Concat(l, got) {
		has[m.To], has[m.From] = m.To, m.From
	}
	want := map[int]int{}
	for place := range has {
		want[place] = place
	}
	for _, m := range l {
		want[m.To] = m.From
	}
	for _, m := range got {
		if circles == 0 && (m.To == spare || m.From == spare) {
			return "spare is named"
		}
		has[m.To] = has[m.From]
	}
	delete(has, spare)
	delete(want, spare)
	if !reflect.DeepEqual(has, want) {
		return "other places than must be"
	}
	return ""
}

// wantError holds that a list is refused.
func wantError(t *testing.T, l []moves.Move, spare int) {
	t.Helper()
	if got, e := moves.Order(l, spare); e != api.ErrForm || got != nil {
		t.Errorf("of %s, spare %d: %d beside %v", told(l), spare, e, got)
	}
}
