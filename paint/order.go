package paint

import "slices"

// neighbours answers of each node the other ones with which it stands in a pair, each once.
func neighbours(n int, pairs [][2]int) [][]int {
	l := make([][]int, n)
	for _, p := range pairs {
		if a, b := p[0], p[1]; a != b {
			l[a] = append(l[a], b)
			l[b] = append(l[b], a)
		}
	}
	last := make([]int, n) // of each node, plus one, the last one as whose neighbour it was met
	for node := range l {
		l[node] = slices.DeleteFunc(l[node], func(other int) bool {
			had := last[other] == node+1
			last[other] = node + 1
			return had
		})
	}
	return l
}

// order answers the nodes so that few neighbours stand ahead of each one: of those that are left, one with the fewest neighbours left always goes behind all others. So who finds all colours taken was left among nodes each of which had as many neighbours as there are colours; where the neighbours are values that clash, more of them are live at once, then, than there are colours.
func order(near [][]int) []int {
	left := make([]int, len(near)) // of each node how many of its neighbours are left
	rows := make([][]int, len(near))
	for node, l := range near {
		left[node] = len(l)
		rows[len(l)] = append(rows[len(l)], node)
	}
	const gone = -1
	var out []int
	for fewest := 0; len(out) < len(near); {
		row := rows[fewest]
		if len(row) == 0 {
			fewest++
			continue
		}
		node := row[len(row)-1]
		rows[fewest] = row[:len(row)-1]
		if left[node] != fewest {
			continue // it has gone to a lower row
		}
		left[node] = gone
		out = append(out, node)
		for _, other := range near[node] {
			if left[other] == gone {
				continue
			}
			left[other]--
			rows[left[other]] = append(rows[left[other]], other)
		}
		fewest = max(0, fewest-1)
	}
	slices.Reverse(out)
	return out
}
