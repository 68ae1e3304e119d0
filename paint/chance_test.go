package paint_test

import (
	"math/rand/v2"
	"reflect"
	"slices"
	"testing"

	"teasel/api"
	"teasel/paint"
)

// TestAllSmallGraphs: each graph of up to 5 nodes, with each number of colours that matters.
func TestAllSmallGraphs(t *testing.T) {
	for n := range 6 {
		l := whole(n)
		for number := range 1 << len(l) {
			var near, far [][2]int
			for i, p := range l {
				if number>>i&1 == 1 {
					near = append(near, p)
				} else {
					far = append(far, p)
				}
			}
			for k := range n + 2 {
				mustPaint(t, n, near, nil, k)
				mustPaint(t, n, near, far, k)
				mustPaint(t, n, near, l, k)
				mustPaint(t, n, nil, near, k)
			}
		}
	}
}

// some answers so many pairs of nodes by chance.
func some(r *rand.Rand, n, count int) [][2]int {
	var l [][2]int
	for range count {
		l = append(l, [2]int{r.IntN(n), r.IntN(n)})
	}
	return l
}

// TestGraphsByChance: of few pairs and of many.
func TestGraphsByChance(t *testing.T) {
	without := 0
	for seed := range uint64(4000) {
		r := rand.New(rand.NewPCG(seed, 2))
		n := 1 + r.IntN(60)
		near := some(r, n, r.IntN(n*n/(1+r.IntN(6))+1))
		likes := some(r, n, r.IntN(2*n))
		if seed%9 == 0 {
			near = nil
		}
		l := mustPaint(t, n, near, likes, r.IntN(api.Regs+1))
		without += n - coloured(l)
	}
	if without < 10000 {
		t.Error("too few nodes go without a colour", without)
	}
}

// TestStretches: nodes that are neighbours where their stretches of one row meet, as values are whose lives meet: as many colours are enough as stretches meet in one place.
func TestStretches(t *testing.T) {
	for seed := range uint64(600) {
		r := rand.New(rand.NewPCG(seed, 3))
		n := 2 + r.IntN(120)
		first, last := make([]int, n), make([]int, n)
		over := make([]int, 300)
		for i := range n {
			first[i] = r.IntN(200)
			last[i] = first[i] + r.IntN(1+r.IntN(60))
			for at := first[i]; at <= last[i]; at++ {
				over[at]++
			}
		}
		var near [][2]int
		for _, p := range whole(n) {
			if first[p[0]] <= last[p[1]] && first[p[1]] <= last[p[0]] {
				near = append(near, p)
			}
		}
		if most := slices.Max(over); most <= api.Regs {
			wantColoured(t, "stretches", n, near, some(r, n, n), most, n)
		}
	}
}

// TestMostLikesAreHad: where few nodes are neighbours, most of those that like each other have one colour.
func TestMostLikesAreHad(t *testing.T) {
	had, all := 0, 0
	for seed := range uint64(300) {
		r := rand.New(rand.NewPCG(seed, 4))
		n := 40
		near, likes := some(r, n, 30), some(r, n, 20)
		l := mustPaint(t, n, near, likes, 8)
		for _, p := range likes {
			all++
			if l[p[0]] == l[p[1]] {
				had++
			}
		}
	}
	if had*100 < all*78 {
		t.Errorf("of %d likes %d are had", all, had)
	}
}

// TestTheSameAnswerEachTime: it hangs on nothing else.
func TestTheSameAnswerEachTime(t *testing.T) {
	for seed := range uint64(300) {
		r := rand.New(rand.NewPCG(seed, 5))
		near, likes := some(r, 30, 90), some(r, 30, 30)
		a := mustPaint(t, 30, near, likes, 6)
		mustPaint(t, 9, likes[:0], nil, 3)
		if !reflect.DeepEqual(a, mustPaint(t, 30, near, likes, 6)) {
			t.Fatal("two answers to one question", seed)
		}
	}
}

// TestMemory: what is handed in stays as it is, spare room too, and no answer shares memory with another one.
func TestMemory(t *testing.T) {
	r := rand.New(rand.NewPCG(1, 6))
	near, likes := some(r, 30, 90), some(r, 30, 30)
	nearBefore, likesBefore := slices.Clone(near), slices.Clone(likes)
	first := mustPaint(t, 30, near[:60], likes[:20], 5)
	want := slices.Clone(first)
	again := mustPaint(t, 30, near[:60], likes[:20], 5)
	clear(again[:cap(again)])
	if !slices.Equal(near, nearBefore) || !slices.Equal(likes, likesBefore) {
		t.Error("it changes what is handed in")
	}
	clear(near)
	clear(likes)
	if !slices.Equal(first, want) {
		t.Error("an answer shares memory")
	}
}

// TestManyNodes: rings, stars, whole graphs, and others with very many pairs.
func TestManyNodes(t *testing.T) {
	n := api.MaxVals
	wantColours(t, "a row", n, row(n), nil, 2, 2)
	wantColoured(t, "a ring", n, ring(n), ring(n), 3, n)
	wantColours(t, "likes in a row", n, nil, row(n), 9, 1)
	var star, groups [][2]int
	for i := 1; i < n; i++ {
		star = append(star, [2]int{0, i})
	}
	wantColours(t, "a star", n, star, star, 2, 2)
	wantColours(t, "a star of likes", n, nil, star, 16, 1)
	for i := range n {
		for k := i - i%17; k < i; k++ {
			groups = append(groups, [2]int{i, k})
		}
	}
	wantColoured(t, "groups of 17", n, groups, star, 16, n-n/17)
	wantColoured(t, "groups of 17", n, groups, star, 15, n-2*(n/17))
	wantColoured(t, "all neighbours", 1500, whole(1500), row(1500), 16, 16)
	r := rand.New(rand.NewPCG(9, 7))
	mustPaint(t, n, some(r, n, 1000000), some(r, n, 100000), 13)
	mustPaint(t, 2000, some(r, 2000, 1000000), some(r, 2000, 100000), 13)
	mustPaint(t, 2, slices.Repeat(pairs(0, 1, 1, 0, 1, 1), 300000), slices.Repeat(pairs(0, 1), 300000), 13)
}

func FuzzPaint(f *testing.F) {
	f.Add([]byte{3, 3, 3, 0, 1, 1, 2, 2, 0})
	f.Add([]byte{9, 2, 0, 0, 1, 1, 2, 2, 0})
	f.Fuzz(func(t *testing.T, p []byte) {
		if len(p) < 4 {
			return
		}
		n, k, most := int(p[0]), int(p[1]%17), int(p[2])
		var near, likes [][2]int
		for i := 3; i+1 < len(p); i += 2 {
			x := [2]int{int(p[i]), int(p[i+1])}
			if max(x[0], x[1]) >= n {
				wantError(t, n, append(near, x), likes, k, api.ErrForm)
				wantError(t, n, near, append(likes, x), k, api.ErrForm)
			} else if len(near) < most {
				near = append(near, x)
			} else {
				likes = append(likes, x)
			}
		}
		mustPaint(t, n, near, likes, k)
	})
}

// TestNoPairsAndEmptyPairs: nil and empty lists are the same.
func TestNoPairsAndEmptyPairs(t *testing.T) {
	a, _ := paint.Paint(5, nil, nil, 4)
	b, e := paint.Paint(5, [][2]int{}, [][2]int{}, 4)
	if e != api.OK || !slices.Equal(a, b) {
		t.Error(a, b, e)
	}
}
