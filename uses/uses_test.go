package uses_test

import (
	"slices"
	"testing"

	"teasel/api"
	. "teasel/parts"
	"teasel/uses"
)

func TestEach(t *testing.T) {
	known := []api.Dbg{IsValue(0, 7, 1, 0), {Kind: api.DNum, Arg: 8}, {Kind: api.DVar, Arg: 9}, Deeper(1, IsValue(0, 3, 0, 2)), IsValue(1, 7, 4, 4)}
	for _, x := range []struct {
		inst    api.Inst
		without []int
		with    []int
	}{
		{Number(0, 5), nil, nil},
		{Inst(api.Add, 2, 1, 1), []int{1, 1}, []int{1, 1}},
		{Inst(api.IStore, -1, 3, 1, 2), []int{3, 1, 2}, []int{3, 1, 2}},
		{Phi(2, 5, 4), []int{5, 4}, []int{5, 4}},
		{Mark(known...), nil, []int{7, 3, 7}},
		{At(1, Call(-1, 0, 6, 4), known...), []int{6, 4}, []int{6, 4, 7, 3, 7}},
		{At(1, Show(6), known...), []int{6}, []int{6}},
		{At(1, Phi(2, 6), known...), []int{6}, []int{6}},
	} {
		for all, want := range map[bool][]int{false: x.without, true: x.with} {
			var got []int
			uses.Each(x.inst, all, func(v int) { got = append(got, v) })
			if !slices.Equal(got, want) {
				t.Errorf("all %v: %+v uses %v, want %v", all, x.inst, got, want)
			}
		}
	}
}
