package flow_test

import (
	"slices"
	"testing"

	"teasel/api"
	"teasel/flow"
)

func loop(head int, nodes ...int) flow.Loop {
	return flow.Loop{Head: head, Nodes: nodes}
}

// Each row is a graph, and what each call answers of it.
func TestGraphs(t *testing.T) {
	for _, x := range []struct {
		name    string
		g       [][]int
		order   []int
		above   []int
		borders [][]int
		loops   []flow.Loop
		into    [][]int
	}{
		{"no nodes", nil, nil, nil, nil, nil, nil},
		{"no nodes, not nil", [][]int{}, nil, nil, nil, nil, nil},
		{"one node", [][]int{nil}, []int{0}, []int{-1}, [][]int{nil}, nil, [][]int{nil}},
		{"to itself", [][]int{{0}}, []int{0}, []int{-1}, [][]int{{0}}, []flow.Loop{loop(0, 0)}, [][]int{{0}}},
		{"to itself twice", [][]int{{0, 0}}, []int{0}, []int{-1}, [][]int{{0}}, []flow.Loop{loop(0, 0)}, [][]int{{0}}},
		{"the chapter's first", [][]int{{1, 2}, {3}, {3}, {1}}, []int{0, 2, 1, 3}, []int{-1, 0, 0, 0},
			[][]int{nil, {3}, {3}, {1}}, nil, [][]int{nil, {0, 3}, {0}, {1, 2}}},
		{"the chapter's second", [][]int{{1}, {2, 3}, {1}, nil}, []int{0, 1, 3, 2}, []int{-1, 0, 1, 1},
			[][]int{nil, {1}, {1}, nil}, []flow.Loop{loop(1, 1, 2)}, [][]int{nil, {0, 2}, {1}, {1}}},
		{"two ways to one node", [][]int{{1, 1}, {2, 2, 2}, nil}, []int{0, 1, 2}, []int{-1, 0, 1},
			[][]int{nil, nil, nil}, nil, [][]int{nil, {0}, {1}}},
		{"the other order of ways", [][]int{{2, 1}, {3}, {3}, nil}, []int{0, 1, 2, 3}, []int{-1, 0, 0, 0},
			[][]int{nil, {3}, {3}, nil}, nil, [][]int{nil, {0}, {0}, {1, 2}}},
		{"nodes that aren't reached", [][]int{{2}, {2, 3}, nil, {1, 3}}, []int{0, 2}, []int{-1, -1, 0, -1},
			[][]int{nil, nil, nil, nil}, nil, [][]int{nil, {3}, {0, 1}, {1, 3}}},
		{"a loop's node that isn't reached", [][]int{{1}, {2}, {1}, {2}, {3, 1}, {1}}, []int{0, 1, 2}, []int{-1, 0, 1, -1, -1, -1},
			[][]int{nil, {1}, {1}, nil, nil, nil}, []flow.Loop{loop(1, 1, 2, 3, 4)}, [][]int{nil, {0, 2, 4, 5}, {1, 3}, {4}, nil, nil}},
		{"back to the first", [][]int{{1}, {0, 2}, nil}, []int{0, 1, 2}, []int{-1, 0, 1},
			[][]int{{0}, {0}, nil}, []flow.Loop{loop(0, 0, 1)}, [][]int{{1}, {0}, {1}}},
		{"a loop in a loop", [][]int{{1}, {2, 5}, {3}, {2, 4}, {1}, nil}, []int{0, 1, 5, 2, 3, 4}, []int{-1, 0, 1, 2, 3, 1},
			[][]int{nil, {1}, {1, 2}, {1, 2}, {1}, nil}, []flow.Loop{loop(1, 1, 2, 3, 4), loop(2, 2, 3)}, [][]int{nil, {0, 4}, {1, 3}, {2}, {3}, {1}}},
		{"two ends of one loop", [][]int{{1}, {2, 3}, {1}, {1, 4}, nil}, []int{0, 1, 3, 4, 2}, []int{-1, 0, 1, 1, 3},
			[][]int{nil, {1}, {1}, {1}, nil}, []flow.Loop{loop(1, 1, 2, 3)}, [][]int{nil, {0, 2, 3}, {1}, {1}, {3}}},
		{"to itself in a loop", [][]int{{1}, {1, 2}, {1, 2}}, []int{0, 1, 2}, []int{-1, 0, 1},
			[][]int{nil, {1}, {1, 2}}, []flow.Loop{loop(1, 1, 2), loop(2, 2)}, [][]int{nil, {0, 1, 2}, {1, 2}}},
	} {
		t.Run(x.name, func(t *testing.T) {
			wantOrder(t, x.g, x.order)
			wantAbove(t, x.g, x.above)
			wantBorders(t, x.g, x.borders)
			wantLoops(t, x.g, x.loops)
			wantInto(t, x.g, x.into)
		})
	}
}

func wantFault(t *testing.T, name string, g [][]int, want api.Errno) {
	t.Helper()
	for call, of := range map[string]func(g [][]int) (int, api.Errno){
		"Order":   func(g [][]int) (int, api.Errno) { l, e := flow.Order(g); return len(l), e },
		"Above":   func(g [][]int) (int, api.Errno) { l, e := flow.Above(g); return len(l), e },
		"Borders": func(g [][]int) (int, api.Errno) { l, e := flow.Borders(g); return len(l), e },
		"Loops":   func(g [][]int) (int, api.Errno) { l, e := flow.Loops(g); return len(l), e },
		"Into":    func(g [][]int) (int, api.Errno) { l, e := flow.Into(g); return len(l), e },
	} {
		if n, e := of(g); e != want || e != api.OK && n > 0 {
			t.Errorf("%s of %s: %d items, error %d, want %d", call, name, n, e, want)
		}
	}
}

func TestGraphsThatAreNone(t *testing.T) {
	long, tooLong, tooLongAndWrong := make([][]int, api.MaxVals), make([][]int, api.MaxVals+1), make([][]int, api.MaxVals+1)
	tooLongAndWrong[7] = []int{-1}
	wantFault(t, "a node behind the last one", [][]int{{1}}, api.ErrForm)
	wantFault(t, "a node below 0", [][]int{{0, -1}}, api.ErrForm)
	wantFault(t, "a node far off", [][]int{{1 << 62}, nil}, api.ErrForm)
	wantFault(t, "a wrong way from a node that isn't reached", [][]int{nil, {0, 2}}, api.ErrForm)
	wantFault(t, "as many nodes as may be", long, api.OK)
	wantFault(t, "a node more", tooLong, api.ErrLong)
	wantFault(t, "a node more, and a wrong way", tooLongAndWrong, api.ErrLong)
	long[api.MaxVals-1] = []int{api.MaxVals}
	wantFault(t, "as many nodes as may be, and a wrong way", long, api.ErrForm)
}

func TestOver(t *testing.T) {
	chain := []int{-1, 0, 1, 2}
	for _, x := range []struct {
		above []int
		a, b  int
		want  bool
	}{
		{chain, 0, 3, true}, {chain, 2, 3, true}, {chain, 3, 3, true}, {chain, 3, 2, false}, {chain, 0, 0, true},
		{[]int{-1, 0, 1}, 0, 2, true}, {[]int{-1, 0, 1}, 2, 1, false}, {[]int{-1, 0, 0}, 1, 2, false},
		{[]int{3, 0, 1, -1}, 3, 2, true},
		// Numbers that are no place.
		{chain, 4, 4, true}, {chain, -1, -1, true}, {chain, -9, -9, true}, {nil, 0, 0, true}, {nil, 0, 1, false},
		{chain, -1, 3, false}, {chain, 0, 4, false}, {chain, 4, 0, false}, {chain, 0, -1, false}, {chain, -1, 4, false}, {chain, 1 << 62, -1 << 62, false},
		{[]int{9}, 9, 0, false}, {[]int{1, 2}, 2, 0, false}, {[]int{1, -5}, -5, 0, false}, {[]int{1, -5}, 1, 0, true},
		// Round and round.
		{[]int{0}, 0, 0, true}, {[]int{0, 0}, 1, 0, false}, {[]int{1, 2, 0}, 2, 0, true}, {[]int{1, 2, 0}, 0, 1, true}, {[]int{1, 2, 0, 3}, 3, 0, false}, {[]int{1, 0, 0}, 2, 0, false},
	} {
		if flow.Over(x.above, x.a, x.b) != x.want {
			t.Errorf("Over(%v, %d, %d) isn't %v", x.above, x.a, x.b, x.want)
		}
	}
}

// TestGreatGraphs: of as many nodes as may be, of the kinds at which ways of going through graphs take longest.
func TestGreatGraphs(t *testing.T) {
	const n = api.MaxVals
	chain := make([][]int, n)
	for i := range n - 1 {
		chain[i] = []int{i + 1}
	}
	order, _ := flow.Order(chain)
	above, _ := flow.Above(chain)
	for i := range n {
		if order[i] != i || above[i] != i-1 {
			t.Fatal("a chain", i, order[i], above[i])
		}
	}
	if !flow.Over(above, 0, n-1) || flow.Over(above, n-1, 0) {
		t.Error("Over of a chain")
	}
	chain[n-1] = []int{0}
	if l, _ := flow.Loops(chain); len(l) != 1 || len(l[0].Nodes) != n {
		t.Error("a ring is one loop")
	}

	// A chain from whose end, and from whose beginning, ways lead to each of as many other nodes.
	comb := make([][]int, n)
	for i := range n / 2 {
		comb[i] = []int{i + 1}
	}
	for i := n/2 + 1; i < n; i++ {
		comb[0] = append(comb[0], i)
		comb[n/2] = append(comb[n/2], i)
	}
	above, _ = flow.Above(comb)
	if slices.Max(above[n/2+1:]) != 0 || above[n/2] != n/2-1 {
		t.Error("a comb")
	}

	// Ways back and forth along a chain that is entered at both ends: each node has the first one above it.
	ladder := make([][]int, n)
	ladder[0] = []int{1, n - 1}
	for i := 1; i < n; i++ {
		ladder[i] = append(ladder[i], max(1, i-1), min(n-1, i+1))
	}
	above, _ = flow.Above(ladder)
	if slices.Max(above) != 0 || above[0] != -1 || slices.Min(above[1:]) != 0 {
		t.Error("a ladder")
	}
	if l, _ := flow.Loops(ladder); len(l) != 2 || !slices.Equal(l[0].Nodes, []int{1}) || l[1].Head != n-1 {
		t.Error("a ladder has the loops of its ends alone", len(l))
	}
	if l, _ := flow.Borders(ladder); len(l[0]) != 0 || !slices.Equal(l[5], []int{4, 6}) || !slices.Equal(l[1], []int{1, 2}) {
		t.Error("the borders of a ladder")
	}
}

// TestManyWays: from each of some nodes to each, many times over.
func TestManyWays(t *testing.T) {
	const n = 300
	g := make([][]int, n)
	for i := range n {
		for k := range 4 * n {
			g[i] = append(g[i], k%n)
		}
	}
	into, _ := flow.Into(g)
	borders, _ := flow.Borders(g)
	loops, _ := flow.Loops(g)
	if len(into[5]) != n || len(borders[0]) != 1 || len(borders[7]) != n {
		t.Error(len(into[5]), len(borders[0]), len(borders[7]))
	}
	if len(loops) != n || len(loops[0].Nodes) != n || len(loops[1].Nodes) != 1 {
		t.Error("loops", len(loops))
	}
}
