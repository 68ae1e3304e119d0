package forest_test

import (
	"testing"

	"teasel/forest"
)

// TestOver holds each forest of up to five nodes against going up.
func TestOver(t *testing.T) {
	for n := range 6 {
		count := 1
		for i := range n {
			count *= i + 2
		}
		for code := range count {
			wantUp(t, n, code)
		}
	}
}

// wantUp is of a forest that a number tells: of each node whether it is left out, has none above it, or which one.
func wantUp(t *testing.T, n, number int) {
	t.Helper()
	var order []int
	above := make([]int, n)
	in := make([]bool, n)
	for i := range n {
		choice := number%(i+2) - 2
		number /= i + 2
		above[i], in[i] = -1, choice != -2
		if choice >= 0 && in[choice] {
			above[i] = choice
		}
		if in[i] {
			order = append(order, i)
		}
	}
	f := forest.New(order, above)
	for a := range n {
		for b := range n {
			want := false
			for x := b; x >= 0; x = above[x] {
				want = want || x == a && in[b]
			}
			if f.Over(a, b) != want {
				t.Fatalf("above %v, in it %v: Over(%d, %d) = %v", above, in, a, b, !want)
			}
		}
	}
}
