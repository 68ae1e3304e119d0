package moves_test

import (
	"math"
	"math/rand/v2"
	"slices"
	"testing"

	"teasel/api"
	"teasel/moves"
)

// TestTheChaptersExamples: two that are exchanged, a row, and a move of a place to itself.
func TestTheChaptersExamples(t *testing.T) {
	if got := hold(t, list(1, 2, 2, 1), 9); len(got) != 3 {
		t.Error(got)
	}
	if got := hold(t, list(1, 2, 2, 3), 9); !slices.Equal(got, list(1, 2, 2, 3)) {
		t.Error(got)
	}
	if got := hold(t, list(1, 1), 9); len(got) != 0 {
		t.Error(got)
	}
}

// TestKindsOfLists: how many moves are needed, and how many circles there are.
func TestKindsOfLists(t *testing.T) {
	for _, x := range []struct {
		name    string
		list    []moves.Move
		needed  int
		circles int
	}{
		{"none", nil, 0, 0},
		{"one", list(5, 7), 1, 0},
		{"two that have nothing to do with each other", list(5, 7, 6, 8), 2, 0},
		{"a row, the last first", list(1, 2, 2, 3, 3, 4), 3, 0},
		{"a row, the first first", list(3, 4, 2, 3, 1, 2), 3, 0},
		{"a row, mixed", list(2, 3, 1, 2, 4, 5, 3, 4), 4, 0},
		{"several from one", list(1, 9, 2, 9, 3, 9), 3, 0},
		{"a row that parts", list(1, 2, 2, 3, 4, 3, 5, 2, 6, 4, 7, 4), 6, 0},
		{"a move to itself", list(4, 4), 0, 0},
		{"moves to themselves", list(4, 4, 5, 5, -6, -6), 0, 0},
		{"a row from one that stays", list(4, 4, 5, 4, 6, 5), 2, 0},
		{"several from one that stays", list(5, 4, 4, 4, 6, 4), 2, 0},
		{"a circle of two", list(1, 2, 2, 1), 3, 1},
		{"a circle of three", list(1, 2, 2, 3, 3, 1), 4, 1},
		{"a circle of three, turned", list(3, 2, 2, 1, 1, 3), 4, 1},
		{"a circle of five", list(1, 2, 4, 5, 2, 3, 5, 1, 3, 4), 6, 1},
		{"a circle from which a row goes on", list(1, 2, 2, 1, 3, 1), 4, 1},
		{"a circle from which rows go on, named first", list(6, 5, 5, 1, 3, 1, 4, 2, 1, 2, 2, 1, 7, 3), 8, 1},
		{"a circle from all of which rows go on", list(1, 2, 2, 3, 3, 1, 11, 1, 12, 2, 13, 3, 21, 11), 8, 1},
		{"two circles", list(1, 2, 3, 4, 2, 1, 4, 3), 6, 2},
		{"three circles", list(1, 2, 2, 1, 3, 4, 4, 5, 5, 3, 7, 8, 8, 7), 10, 3},
		{"circles, rows, and one that stays", list(1, 2, 2, 1, 3, 1, 4, 4, 5, 4, 8, 7, 9, 8, 11, 12, 12, 11), 10, 2},
		{"numbers below nought", list(-1, -2, -2, -1, math.MinInt, math.MaxInt, math.MaxInt, 0), 5, 1},
	} {
		for seed := range uint64(20) {
			l := slices.Clone(x.list)
			if seed > 0 {
				r := rand.New(rand.NewPCG(seed, 1))
				r.Shuffle(len(l), func(i, k int) { l[i], l[k] = l[k], l[i] })
			}
			if got := hold(t, l, spare); len(got) != x.needed {
				t.Errorf("%s: %v, want %d", x.name, got, x.needed)
			}
			if n := moves.Circles(l); n != x.circles {
				t.Errorf("%s: %d circles, want %d", x.name, n, x.circles)
			}
		}
	}
}

// TestSpare: any place that isn't named may be it; it is named if there is a circle, and else not.
func TestSpare(t *testing.T) {
	for _, s := range []int{0, 4, 9, -1, math.MinInt, math.MaxInt} {
		for _, l := range [][]moves.Move{nil, list(1, 2), list(1, 2, 2, 3, 3, 3)} {
			hold(t, l, s)
		}
		got := hold(t, list(1, 2, 2, 1, 3, 1, 5, 6, 6, 5), s)
		if !slices.ContainsFunc(got, func(m moves.Move) bool { return m.To == s }) || !slices.ContainsFunc(got, func(m moves.Move) bool { return m.From == s }) {
			t.Error(got)
		}
	}
}

// TestSpareThatIsNamed: as a To, or as a From, of a move to itself, too, whether there is a circle or not.
func TestSpareThatIsNamed(t *testing.T) {
	for _, l := range [][]moves.Move{list(1, 2), list(2, 1), list(1, 1), list(3, 4, 4, 3, 5, 1), list(3, 4, 4, 3, 1, 5), list(3, 4, 1, 1), list(1, 3, 3, 1)} {
		wantError(t, l, 1)
		hold(t, l, 9)
	}
	wantError(t, list(math.MinInt, 3), math.MinInt)
}

// TestTwoMovesWithOneTo: from one place, or from two, to itself, too; they have no circles.
func TestTwoMovesWithOneTo(t *testing.T) {
	for _, l := range [][]moves.Move{list(1, 2, 1, 3), list(1, 2, 1, 2), list(1, 1, 1, 1), list(1, 1, 1, 2), list(1, 2, 3, 4, 4, 3, 1, 1), list(1, 2, 2, 1, 5, 6, 6, 5, 1, 2), list(0, 5, 7, 8, 0, 6)} {
		wantError(t, l, 9)
		wantError(t, l, l[0].To)
		wantError(t, l, l[0].From)
		if n := moves.Circles(l); n != 0 {
			t.Errorf("%d circles in %v", n, l)
		}
	}
}

// TestAllSmallLists: each list in which each of up to 5 places gets something from one of them, or from outside, or nothing.
func TestAllSmallLists(t *testing.T) {
	for n := range 6 {
		count := 1
		for range n {
			count *= n + 2
		}
		for number := range count {
			var l []moves.Move
			for to := range n {
				if from := number % (n + 2); from <= n {
					l = append(l, moves.Move{To: to, From: from})
				}
				number /= n + 2
			}
			hold(t, l, spare)
			slices.Reverse(l)
			hold(t, l, -1)
		}
	}
}

// chance answers a list by chance, in which most places have a move.
func chance(r *rand.Rand, n int) []moves.Move {
	tos, froms := r.Perm(n), r.Perm(n)
	var l []moves.Move
	for i, to := range tos {
		switch r.IntN(8) {
		case 0:
		case 1:
			l = append(l, moves.Move{To: to, From: r.IntN(n + 3)})
		default:
			l = append(l, moves.Move{To: to, From: froms[i]})
		}
	}
	return l
}

func TestListsByChance(t *testing.T) {
	circles := 0
	for seed := range uint64(20000) {
		r := rand.New(rand.NewPCG(seed, 2))
		l := chance(r, 1+r.IntN(20))
		hold(t, l, spare)
		circles += moves.Circles(l)
		if len(l) > 0 {
			wantError(t, append(l, moves.Move{To: l[r.IntN(len(l))].To, From: r.IntN(20)}), spare)
		}
	}
	if circles < 5000 {
		t.Error(circles)
	}
}

// TestLongLists: rows, circles, several from one, and all by chance.
func TestLongLists(t *testing.T) {
	const n = 200000
	var row, ring, star, pairs []moves.Move
	for i := range n {
		row = append(row, moves.Move{To: i, From: i + 1})
		ring = append(ring, moves.Move{To: i, From: (i + 7) % n})
		star = append(star, moves.Move{To: i, From: n})
		pairs = append(pairs, moves.Move{To: i, From: i ^ 1})
	}
	for _, x := range []struct {
		list   []moves.Move
		needed int
	}{{row, n}, {ring, n + 1}, {star, n}, {pairs, n + n/2}} {
		got, e := moves.Order(x.list, spare)
		if e != api.OK || len(got) != x.needed || moves.Circles(x.list) != x.needed-n {
			t.Fatal(e, len(got), x.needed, moves.Circles(x.list))
		}
		if s := wrong(x.list, got, spare, x.needed-n); s != "" {
			t.Fatal(s)
		}
		slices.Reverse(x.list)
		got, _ = moves.Order(x.list, spare)
		if s := wrong(x.list, got, spare, x.needed-n); s != "" || len(got) != x.needed {
			t.Fatal(s)
		}
		wantError(t, append(x.list, moves.Move{To: n / 2, From: 4}), spare)
	}
	r := rand.New(rand.NewPCG(1, 3))
	l := chance(r, n)
	got, e := moves.Order(l, spare)
	if s := wrong(l, got, spare, 1); e != api.OK || s != "" {
		t.Error(e, s)
	}
}

// TestMemory: what is handed in stays as it is, spare room too, and no answer shares memory with another one; of one list always the same is answered.
func TestMemory(t *testing.T) {
	for seed := range uint64(300) {
		r := rand.New(rand.NewPCG(seed, 4))
		room := append(chance(r, 20), list(77, 78, 79, 80)...)
		before := slices.Clone(room)
		l := room[:len(room)-2]
		first := hold(t, l, spare)
		want := slices.Clone(first)
		moves.Circles(l)
		again := hold(t, l, spare)
		if !slices.Equal(again, want) || !slices.Equal(room, before) {
			t.Fatal("two answers to one question, or what is handed in is changed", seed)
		}
		clear(again[:cap(again)])
		clear(room)
		if !slices.Equal(first, want) {
			t.Fatal("an answer shares memory", seed)
		}
	}
}

func FuzzMoves(f *testing.F) {
	f.Add([]byte{1, 2, 2, 1, 3, 1, 4, 4})
	f.Fuzz(func(t *testing.T, p []byte) {
		var l []moves.Move
		had := map[int]bool{}
		for i := 0; i+1 < len(p); i += 2 {
			m := moves.Move{To: int(p[i]), From: int(p[i+1])}
			if had[m.To] {
				wantError(t, append(l, m), spare)
				continue
			}
			had[m.To] = true
			l = append(l, m)
			wantError(t, l, m.To)
			wantError(t, l, m.From)
		}
		hold(t, l, spare)
	})
}
