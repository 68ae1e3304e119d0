package flow_test

import (
	"reflect"
	"slices"
	"testing"

	"teasel/api"
	"teasel/flow"
)

// The oracle goes by the chapter's definitions alone, by asking again and again whether there is a way.

// waysFrom tells which nodes can be reached from one, none of whose ways comes to the node without (itself neither).
func waysFrom(g [][]int, from, without int) []bool {
	seen := make([]bool, len(g))
	var visit func(n int)
	visit = func(n int) {
		if n == without || seen[n] {
			return
		}
		seen[n] = true
		for _, to := range g[n] {
			visit(to)
		}
	}
	visit(from)
	return seen
}

// graph has of two nodes whether the first dominates the second.
type graph struct {
	g         [][]int
	reached   []bool
	dominates [][]bool
}

func newGraph(g [][]int) *graph {
	o := &graph{g: g}
	if len(g) == 0 {
		return o
	}
	o.reached = waysFrom(g, 0, -1)
	for a := range g {
		reached := waysFrom(g, 0, a)
		row := make([]bool, len(g))
		for b := range g {
			row[b] = o.reached[a] && o.reached[b] && !reached[b]
		}
		o.dominates = append(o.dominates, row)
	}
	return o
}

func (o *graph) order() []int {
	var left []int
	seen := make([]bool, len(o.g))
	var visit func(n int)
	visit = func(n int) {
		seen[n] = true
		for _, to := range o.g[n] {
			if !seen[to] {
				visit(to)
			}
		}
		left = append(left, n)
	}
	if len(o.g) > 0 {
		visit(0)
	}
	slices.Reverse(left)
	return left
}

func (o *graph) above() []int {
	var l []int
	for b := range o.g {
		nearest := -1
		for a := range o.g {
			if a != b && o.dominates[a][b] && (nearest < 0 || o.dominates[nearest][a]) {
				nearest = a
			}
		}
		l = append(l, nearest)
	}
	return l
}

func (o *graph) goesOn(a, b int) bool {
	return slices.Contains(o.g[a], b)
}

func (o *graph) borders() [][]int {
	l := make([][]int, len(o.g))
	for a := range o.g {
		for b := range o.g {
			if !o.reached[b] || o.dominates[a][b] && a != b {
				continue
			}
			for c := range o.g {
				if o.dominates[a][c] && o.goesOn(c, b) {
					l[a] = append(l[a], b)
					break
				}
			}
		}
	}
	return l
}

func (o *graph) loops() []flow.Loop {
	var l []flow.Loop
	for h := range o.g {
		in := make([]bool, len(o.g))
		for t := range o.g {
			if !o.dominates[h][t] || !o.goesOn(t, h) {
				continue
			}
			in[h], in[t] = true, true
			for n := range o.g {
				in[n] = in[n] || t != h && waysFrom(o.g, n, h)[t]
			}
		}
		loop := flow.Loop{Head: h}
		for n, is := range in {
			if is {
				loop.Nodes = append(loop.Nodes, n)
			}
		}
		if len(loop.Nodes) > 0 {
			l = append(l, loop)
		}
	}
	return l
}

func (o *graph) into() [][]int {
	l := make([][]int, len(o.g))
	for b := range o.g {
		for a := range o.g {
			if o.goesOn(a, b) {
				l[b] = append(l[b], a)
			}
		}
	}
	return l
}

func wantOracle(t *testing.T, g [][]int) {
	t.Helper()
	o := newGraph(g)
	wantOrder(t, g, o.order())
	wantAbove(t, g, o.above())
	wantBorders(t, g, o.borders())
	wantLoops(t, g, o.loops())
	wantInto(t, g, o.into())
	above, _ := flow.Above(g)
	for a := range g {
		for b := range g {
			if want := o.dominates[a][b] || a == b; flow.Over(above, a, b) != want {
				t.Errorf("%v: Over(%v, %d, %d) isn't %v", g, above, a, b, want)
			}
		}
	}
	if t.Failed() {
		t.FailNow()
	}
}

// TestAllSmallGraphs: of three nodes with up to two ways each, in each order, and of four nodes with any sets of ways.
func TestAllSmallGraphs(t *testing.T) {
	wantOracle(t, nil)
	for _, n := range []int{1, 2, 3} {
		ways := [][]int{nil}
		for a := range n {
			ways = append(ways, []int{a})
			for b := range n {
				ways = append(ways, []int{a, b})
			}
		}
		wantAllOf(t, n, ways)
	}
	var sets [][]int
	for bits := range 16 {
		var l []int
		for a := range 4 {
			if bits>>a&1 != 0 {
				l = append(l, a)
			}
		}
		sets = append(sets, l)
	}
	wantAllOf(t, 4, sets)
}

func wantAllOf(t *testing.T, n int, ways [][]int) {
	t.Helper()
	count := 1
	for range n {
		count *= len(ways)
	}
	for number := range count {
		var g [][]int
		for range n {
			g = append(g, ways[number%len(ways)])
			number /= len(ways)
		}
		wantOracle(t, g)
	}
}

// chance answers graphs one can't foretell: of a number always the same one.
func chance(seed uint64, n, ways int) [][]int {
	g := make([][]int, n)
	for range n * ways / 2 {
		seed = seed*6364136223846793005 + 1442695040888963407
		a := int(seed >> 33 % uint64(n))
		seed = seed*6364136223846793005 + 1442695040888963407
		b := int(seed >> 33 % uint64(n))
		if seed>>32&1 == 0 && b != 0 {
			b = min(n-1, a+1+b%3)
		}
		g[a] = append(g[a], b)
	}
	return g
}

func TestGraphsByChance(t *testing.T) {
	for seed := range uint64(6000) {
		wantOracle(t, chance(seed, 1+int(seed%25), 1+int(seed/25%6)))
	}
}

func FuzzGraph(f *testing.F) {
	f.Add([]byte{4, 0, 1, 0, 2, 1, 3, 2, 3, 3, 1})
	f.Fuzz(func(t *testing.T, p []byte) {
		if len(p) == 0 || p[0] > 40 {
			return
		}
		g := make([][]int, p[0])
		for i := 1; i+1 < len(p) && p[0] > 0; i += 2 {
			a := p[i] % p[0]
			g[a] = append(g[a], int(p[i+1]%p[0]))
		}
		wantOracle(t, g)
	})
}

// plain makes nil of empty lists, as the two are the same.
func plain(l [][]int) [][]int {
	var out [][]int
	for _, x := range l {
		if len(x) == 0 {
			x = nil
		}
		out = append(out, x)
	}
	return out
}

func wantOrder(t *testing.T, g [][]int, want []int) {
	t.Helper()
	if l, e := flow.Order(g); e != api.OK || !slices.Equal(l, want) {
		t.Errorf("Order(%v) = %v, %d, want %v", g, l, e, want)
	}
}

func wantAbove(t *testing.T, g [][]int, want []int) {
	t.Helper()
	if l, e := flow.Above(g); e != api.OK || !slices.Equal(l, want) {
		t.Errorf("Above(%v) = %v, %d, want %v", g, l, e, want)
	}
}

func wantBorders(t *testing.T, g [][]int, want [][]int) {
	t.Helper()
	if l, e := flow.Borders(g); e != api.OK || len(l) != len(g) || !reflect.DeepEqual(plain(l), plain(want)) {
		t.Errorf("Borders(%v) = %v, %d, want %v", g, l, e, want)
	}
}

func wantLoops(t *testing.T, g [][]int, want []flow.Loop) {
	t.Helper()
	if l, e := flow.Loops(g); e != api.OK || len(l)+len(want) > 0 && !reflect.DeepEqual(l, want) {
		t.Errorf("Loops(%v) = %v, %d, want %v", g, l, e, want)
	}
}

func wantInto(t *testing.T, g [][]int, want [][]int) {
	t.Helper()
	if l, e := flow.Into(g); e != api.OK || len(l) != len(g) || !reflect.DeepEqual(plain(l), plain(want)) {
		t.Errorf("Into(%v) = %v, %d, want %v", g, l, e, want)
	}
}
