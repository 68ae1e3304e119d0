package paint_test

import (
	"math"
	"slices"
	"testing"

	"teasel/api"
	"teasel/paint"
)

// TestTheChaptersExamples: a triangle, and two that would like to have one colour.
func TestTheChaptersExamples(t *testing.T) {
	three := pairs(0, 1, 1, 2, 2, 0)
	wantColours(t, "a triangle", 3, three, nil, 3, 3)
	wantColoured(t, "a triangle", 3, three, nil, 2, 2)
	if l := mustPaint(t, 3, nil, pairs(0, 2), 16); l[0] != l[2] || l[0] == -1 || l[1] == -1 {
		t.Error(l)
	}
}

// TestFewNodes: none, one, and nodes without neighbours, which all have a colour if there is any.
func TestFewNodes(t *testing.T) {
	for k := range api.Regs + 1 {
		if l := mustPaint(t, 0, nil, nil, k); len(l) != 0 {
			t.Error(l)
		}
		for _, n := range []int{1, 2, 7} {
			want := n
			if k == 0 {
				want = 0
			}
			wantColoured(t, "no pairs", n, nil, nil, k, want)
			wantColoured(t, "pairs of one node", n, pairs(0, 0, n-1, n-1, 0, 0), pairs(n/2, n/2), k, want)
		}
	}
}

// TestNoColour: of nought none has one, whatever is near, or liked.
func TestNoColour(t *testing.T) {
	wantColoured(t, "no colour", 4, whole(4), nil, 0, 0)
	wantColoured(t, "no colour", 4, nil, row(4), 0, 0)
}

// TestOneColour: of two neighbours one has it.
func TestOneColour(t *testing.T) {
	wantColoured(t, "a pair", 2, pairs(0, 1), pairs(1, 0), 1, 1)
	wantColoured(t, "neighbours of one", 2, pairs(0, 1, 0, 0), nil, 1, 1)
	wantColoured(t, "all neighbours", 9, whole(9), nil, 1, 1)
}

// TestAllNeighbours: as many have a colour as there are colours.
func TestAllNeighbours(t *testing.T) {
	for k := range api.Regs + 1 {
		for _, n := range []int{1, 2, 3, 15, 16, 17, 18, 40} {
			wantColoured(t, "all neighbours", n, whole(n), nil, k, min(n, k))
			wantColoured(t, "all neighbours that like each other", n, whole(n), whole(n), k, min(n, k))
		}
	}
}

// TestRingsAndRows: two colours are enough for rows and even rings, three for odd ones.
func TestRingsAndRows(t *testing.T) {
	for _, n := range []int{2, 3, 4, 5, 10, 11, 200, 201} {
		wantColours(t, "a row", n, row(n), nil, 2, 2)
		for k := 3; k <= api.Regs; k++ {
			wantColoured(t, "a ring", n, ring(n), nil, k, n)
		}
	}
}

// TestFewNeighbours: who has fewer neighbours than there are colours has one.
func TestFewNeighbours(t *testing.T) {
	for k := 1; k <= api.Regs; k++ {
		star := [][2]int{}
		for i := range 50 {
			star = append(star, [2]int{50, i})
		}
		l := mustPaint(t, 51, star, nil, k)
		if n := coloured(l[:50]); n < 50 && k > 1 {
			t.Error("of a star's beams so many have a colour:", n)
		}
		wantColoured(t, "all neighbours, one less than colours", k-1, whole(k-1), nil, k, k-1)
		wantColoured(t, "as many as colours", k, whole(k), nil, k, k)
		wantColoured(t, "one more than colours", k+1, whole(k+1), nil, k, k)
	}
}

// TestPairsGivenTwice: they count once, however they are turned.
func TestPairsGivenTwice(t *testing.T) {
	l := whole(6)
	for range 3 {
		for _, p := range slices.Clone(l) {
			l = append(l, [2]int{p[1], p[0]}, [2]int{p[0], p[0]})
		}
	}
	for k := range 8 {
		wantColoured(t, "pairs given twice", 6, l, nil, k, min(k, 6))
	}
	wantColours(t, "one pair very often", 3, append(slices.Repeat(pairs(0, 1, 1, 0), 40), pairs(1, 2)...), nil, 2, 2)
}

// TestLikesWithoutPairs: in rows, in circles, with themselves, given twice, and in several groups.
func TestLikesWithoutPairs(t *testing.T) {
	for k := 1; k <= api.Regs; k++ {
		for _, likes := range [][][2]int{row(9), ring(9), whole(9), pairs(0, 2, 4, 2, 6, 4, 6, 8, 1, 3, 3, 3), pairs(8, 0, 0, 8, 8, 0, 7, 7), pairs(5, 5)} {
			wantColoured(t, "likes", 9, nil, likes, k, 9)
			wantColoured(t, "likes beside pairs of one node", 9, pairs(3, 3, 0, 0), likes, k, 9)
		}
	}
}

// TestLikesBesidePairs: where they can be had together, they are; where a like is a pair, the pair holds.
func TestLikesBesidePairs(t *testing.T) {
	for k := 2; k <= api.Regs; k++ {
		if l := mustPaint(t, 4, pairs(0, 1, 1, 2, 2, 3), pairs(0, 2, 1, 3), k); l[0] != l[2] || l[1] != l[3] {
			t.Error(l)
		}
		if l := mustPaint(t, 3, pairs(0, 1, 0, 2), pairs(1, 2), k); l[1] != l[2] {
			t.Error(l)
		}
		if l := mustPaint(t, 2, pairs(0, 1), pairs(0, 1, 1, 0), k); l[0] == l[1] || coloured(l) != 2 {
			t.Error(l)
		}
		if l := mustPaint(t, 4, pairs(0, 1, 1, 0), pairs(0, 1, 1, 2, 2, 3), k); coloured(l) != 4 {
			t.Error(l)
		}
	}
}

// TestNumbersOutOfBounds: of nodes and of colours; what is wrong with the pairs, too, comes behind that.
func TestNumbersOutOfBounds(t *testing.T) {
	for _, n := range []int{-1, api.MaxVals + 1, math.MinInt, math.MaxInt} {
		wantError(t, n, nil, nil, 3, api.ErrArg)
		wantError(t, n, pairs(-1, 0), pairs(5, -7), 3, api.ErrArg)
		wantError(t, n, nil, nil, -1, api.ErrArg)
	}
	for _, k := range []int{-1, api.Regs + 1, 64, math.MinInt, math.MaxInt} {
		wantError(t, 3, nil, nil, k, api.ErrArg)
		wantError(t, 0, nil, nil, k, api.ErrArg)
		wantError(t, 3, pairs(0, 3), pairs(-1, 0), k, api.ErrArg)
	}
	mustPaint(t, api.MaxVals, nil, nil, api.Regs)
	mustPaint(t, api.MaxVals, nil, nil, 0)
}

func wantError(t *testing.T, n int, near, likes [][2]int, k int, want api.Errno) {
	t.Helper()
	if l, e := paint.Paint(n, near, likes, k); e != want || l != nil {
		t.Errorf("of %d nodes, %v, %v, %d: %d beside %v, want %d", n, near, likes, k, e, l, want)
	}
}

// TestNumbersOfNoNode: in pairs and in likes, on both sides, of one node, too, and behind others that are right.
func TestNumbersOfNoNode(t *testing.T) {
	for _, n := range []int{0, 1, 3, api.MaxVals} {
		for _, no := range []int{-1, n, n + 1, math.MinInt, math.MaxInt} {
			for _, l := range [][][2]int{pairs(no, 0), pairs(0, no), pairs(no, no), pairs(0, 0, 0, no), pairs(n-1, 0, no, n-1)} {
				for _, k := range []int{0, 1, api.Regs} {
					wantError(t, n, l, nil, k, api.ErrForm)
					wantError(t, n, nil, l, k, api.ErrForm)
					wantError(t, n, l, l, k, api.ErrForm)
				}
			}
		}
	}
}
