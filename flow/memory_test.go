package flow_test

import (
	"reflect"
	"testing"

	"teasel/flow"
)

func spoil(l []int) {
	l = l[:cap(l)]
	for i := range l {
		l[i] = -7
	}
}

// lists answers all lists that the calls answer of a graph.
func lists(g [][]int) [][]int {
	order, _ := flow.Order(g)
	above, _ := flow.Above(g)
	l := [][]int{order, above}
	borders, _ := flow.Borders(g)
	into, _ := flow.Into(g)
	loops, _ := flow.Loops(g)
	l = append(append(l, borders...), into...)
	for _, x := range loops {
		l = append(l, x.Nodes)
	}
	return l
}

// TestAnswersAreNewMemory: whoever writes over one list, spare room too, changes no other, nor the graph.
func TestAnswersAreNewMemory(t *testing.T) {
	g := chance(5, 12, 5)
	before := plain(g)
	for i := range before {
		before[i] = append([]int{}, before[i]...)
	}
	want := lists(g)
	again := lists(g)
	if len(again) < 27 {
		t.Fatal("the graph has no loop")
	}
	for i := range again {
		spoil(again[i])
		again[i] = append([]int{}, want[i]...)
		if !reflect.DeepEqual(plain(again), plain(want)) {
			t.Fatal("two lists share memory", i)
		}
	}
	if !reflect.DeepEqual(plain(g), plain(before)) || !reflect.DeepEqual(plain(lists(g)), plain(want)) {
		t.Error("an answer shares memory with the graph, or with an earlier one")
	}
	for i := range g {
		spoil(g[i])
	}
	if !reflect.DeepEqual(plain(again), plain(want)) {
		t.Error("an answer hangs together with the graph")
	}
}

// TestOuterListsAreNewMemory: the lists of lists, too.
func TestOuterListsAreNewMemory(t *testing.T) {
	g := chance(5, 12, 5)
	want := lists(g)
	borders, _ := flow.Borders(g)
	clear(borders[:cap(borders)])
	into, _ := flow.Into(g)
	clear(into[:cap(into)])
	loops, _ := flow.Loops(g)
	clear(loops[:cap(loops)])
	if !reflect.DeepEqual(plain(lists(g)), plain(want)) {
		t.Error("two answers share memory")
	}
}

func TestTheSameAnswerEachTime(t *testing.T) {
	for seed := range uint64(300) {
		g := chance(seed, 30, 6)
		if !reflect.DeepEqual(plain(lists(g)), plain(lists(g))) {
			t.Fatal("two answers to one graph", seed)
		}
	}
}
