package fold_test

import (
	"testing"

	"teasel/api"
	. "teasel/parts"
)

// TestTheLongestCode: as many instructions as there may be, in one block, or a phi in each of many.
func TestTheLongestCode(t *testing.T) {
	long := []api.Inst{Number(0, 3), Read(1)}
	for len(long) < api.MaxCode {
		v := len(long)
		long = append(long, Inst(api.Add, v, v-2, v%2))
	}
	c := Main(Answers(len(long)-1, long...))
	c.Funs[0].Vals = api.MaxVals
	if end := hold(t, c, nums(4), api.MaxCode+2); end != api.Halt {
		t.Error(end)
	}
	if d := mustRun(t, c); Count(d, api.IConst) != api.MaxCode/2 {
		t.Error(Count(d, api.IConst))
	}
}

// TestManyBlocks: as many as there may be, all but two of which aren't reached any more; or all of which are, by a phi that has an Arg for each.
func TestManyBlocks(t *testing.T) {
	blocks := make([]api.Block, api.MaxVals)
	last := len(blocks) - 1
	args := make([]int, last)
	for i := range blocks[:last] {
		blocks[i] = Branch(0, last, i+1)
	}
	blocks[last-1] = Goes(last)
	blocks[last] = Behind(Answers(1), Phi(1, args...))
	for _, x := range []api.Inst{Number(0, 1), Read(0)} {
		blocks[0].Insts = []api.Inst{x}
		c := Main(blocks...)
		if end := hold(t, c, nums(0), 2*api.MaxVals); end != api.Halt {
			t.Error(end)
		}
		if n := len(mustRun(t, c).Funs[0].Blocks); n != 2 && n != api.MaxVals {
			t.Error(n)
		}
	}
}
