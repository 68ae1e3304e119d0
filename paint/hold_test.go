package paint_test

import (
	"fmt"
	"slices"
	"testing"

	"teasel/api"
	"teasel/paint"
)

// pairs answers pairs from numbers, two by two.
func pairs(l ...int) [][2]int {
	var out [][2]int
	for i := 0; i < len(l); i += 2 {
		out = append(out, [2]int{l[i], l[i+1]})
	}
	return out
}

// mustPaint answers the colours of a graph, which are as the chapter asks.
func mustPaint(t *testing.T, n int, near, likes [][2]int, k int) []int {
	t.Helper()
	l, e := paint.Paint(n, near, likes, k)
	if e != api.OK {
		t.Fatalf("Paint answers %d of %d nodes, %d pairs, %d likes, %d colours", e, n, len(near), len(likes), k)
	}
	if s := wrong(n, near, likes, k, l); s != "" {
		text := fmt.Sprint(n, near, likes, k, l)
		t.Fatalf("%s: %s", s, text[:min(len(text), 3000)])
	}
	return l
}

// wrong tells what the chapter asks for and colours haven't.
func wrong(n int, near, likes [][2]int, k int, l []int) string {
	if len(l) != n {
		return "another number of nodes"
	}
	for _, c := range l {
		if c < -1 || c >= k {
			return "no such colour"
		}
	}
	met := make([]map[int]bool, n)
	unlike := false
	for _, p := range near {
		a, b := p[0], p[1]
		if a == b {
			continue
		}
		unlike = true
		if l[a] == l[b] && l[a] != -1 {
			return "one colour for the nodes of a pair"
		}
		meets(met, l, a, b)
		meets(met, l, b, a)
	}
	for node, c := range l {
		if c == -1 && len(met[node]) < k {
			return "a node without a colour, though one is free"
		}
	}
	for _, p := range likes {
		if !unlike && l[p[0]] != l[p[1]] {
			return "two colours where one is liked"
		}
	}
	return ""
}

// meets notes the colour that a node's neighbour has.
func meets(met []map[int]bool, l []int, node, other int) {
	if l[other] == -1 || l[node] != -1 {
		return
	}
	if met[node] == nil {
		met[node] = map[int]bool{}
	}
	met[node][l[other]] = true
}

// coloured answers how many nodes have a colour.
func coloured(l []int) int {
	n := 0
	for _, c := range l {
		if c != -1 {
			n++
		}
	}
	return n
}

// wantColoured holds how many nodes have a colour.
func wantColoured(t *testing.T, name string, n int, near, likes [][2]int, k, want int) {
	t.Helper()
	l := mustPaint(t, n, near, likes, k)
	if got := coloured(l); got != want {
		t.Errorf("%s: with %d colours %d nodes have one, want %d", name, k, got, want)
	}
}

// wantColours holds how many unlike colours there are.
func wantColours(t *testing.T, name string, n int, near, likes [][2]int, k, want int) {
	t.Helper()
	l := mustPaint(t, n, near, likes, k)
	slices.Sort(l)
	if got := slices.Compact(l); len(got) != want || slices.Contains(got, -1) {
		t.Errorf("%s: the colours are %v, want %d", name, got, want)
	}
}

// row answers pairs of nodes that follow one another; ring those of a ring; whole each two of some.
func row(n int) [][2]int {
	var l [][2]int
	for i := range max(0, n-1) {
		l = append(l, [2]int{i, i + 1})
	}
	return l
}

func ring(n int) [][2]int {
	return append(row(n), [2]int{n - 1, 0})
}

func whole(n int) [][2]int {
	var l [][2]int
	for i := range n {
		for k := range i {
			l = append(l, [2]int{i, k})
		}
	}
	return l
}
