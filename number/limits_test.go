package number_test

import (
	"testing"

	"teasel/api"
	"teasel/code"
	"teasel/number"
	. "teasel/parts"
)

// mustFit answers what long code becomes; its form is held elsewhere, as that takes long.
func mustFit(t *testing.T, c api.Code) api.Code {
	t.Helper()
	d, e := number.Run(c)
	if e != api.OK || !code.Plain(d) {
		t.Fatal(e, code.Check(d), code.Check(c))
	}
	return d
}

// TestTheLongestCode: as many instructions as there may be, all the same, or of which each two hang on the two ahead.
func TestTheLongestCode(t *testing.T) {
	l := []api.Inst{Read(0)}
	for v := 1; v < api.MaxCode; v++ {
		l = append(l, Inst(api.Neg, v, 0))
	}
	c := Main(Answers(len(l)-1, l...))
	c.Funs[0].Vals = api.MaxVals
	if d := mustFit(t, c); code.Size(d) != 2 {
		t.Error(code.Size(d))
	}
	for v := 2; v < api.MaxCode; v++ {
		l[v] = Inst(api.Neg, v, v-2+v%2)
	}
	if d := mustFit(t, c); code.Size(d) != api.MaxCode/2+1 {
		t.Error(code.Size(d))
	}
	holdRuns(t, c, mustFit(t, c), nums(4), api.MaxCode+2)
}

// TestManyBlocksBesideEachOther: each makes the same of a value, as does one that is over them all, if a phi has that value, which is known behind them alone.
func TestManyBlocksBesideEachOther(t *testing.T) {
	const leaves = 8000
	for _, x := range []struct{ first, want int }{{0, 1}, {1, leaves + 1}} {
		blocks := []api.Block{Goes(1, Read(0), Read(1)), Behind(Goes(2, Inst(api.ICopy, 3, 2), Inst(api.Neg, 4, 3)), Phi(2, x.first, 3))}
		for n := range leaves {
			at := len(blocks)
			next := at + 2
			if n == leaves-1 {
				next = 1
			}
			blocks = append(blocks, Branch(0, at+1, next), Ends(Inst(api.Neg, 10+n, 0), Show(10+n)))
		}
		c := Main(blocks...)
		c.Funs[0].Vals = api.MaxVals
		d := mustFit(t, c)
		if n := Count(d, api.Neg); n != x.want {
			t.Errorf("%d stay, want %d", n, x.want)
		}
		if n := Count(d, api.IPhi); n != 0 {
			t.Errorf("%d phis", n)
		}
		holdRuns(t, c, d, nums(3, 4), 99)
	}
}

// TestManyLoops: in each one it is known only of the one ahead of it what it has, when that is gone through.
func TestManyLoops(t *testing.T) {
	const loops = 6000
	blocks := []api.Block{Goes(1, Read(0), Read(1))}
	last := 1
	for n := range loops {
		at, v := len(blocks), 10+6*n
		blocks = append(blocks,
			Behind(Branch(0, at+1, at+2, Inst(api.Neg, v+2, v)), Phi(v, last, v+5)),
			Goes(at, Inst(api.ICopy, v+5, v)))
		last = v
	}
	c := Main(append(blocks, Answers(last))...)
	c.Funs[0].Vals = api.MaxVals
	d := mustFit(t, c)
	if a, b, n := Count(d, api.IPhi), Count(d, api.ICopy), Count(d, api.Neg); a != 0 || b != 0 || n != 1 {
		t.Error(a, b, n)
	}
	holdRuns(t, c, d, nums(0, 6), 50000)
}

// TestAPhiOfManyWays: it has an Arg for each of very many blocks, which become the same one by one.
func TestAPhiOfManyWays(t *testing.T) {
	const ways = 20000
	blocks := []api.Block{Branch(0, 1, 2, Read(0), Number(1, 3))}
	args := []int{}
	for n := 1; n < ways; n++ {
		blocks = append(blocks, Branch(0, ways, n+1, Inst(api.ICopy, n+1, max(1, n))))
		args = append(args, n+1)
	}
	blocks[0] = Goes(1, blocks[0].Insts...)
	blocks[ways-1] = Goes(ways, Inst(api.ICopy, ways, ways-1))
	c := Main(append(blocks, Behind(Answers(ways+1), Phi(ways+1, args...)))...)
	c.Funs[0].Vals = api.MaxVals
	d := mustFit(t, c)
	if code.Size(d) != 2 {
		t.Error(code.Size(d))
	}
	holdRuns(t, c, d, nums(0), 100000)
}

// TestDeepBlocks: as many as there may be, each below the one ahead of it.
func TestDeepBlocks(t *testing.T) {
	blocks := make([]api.Block, api.MaxVals)
	for i := range blocks {
		blocks[i] = Goes(i + 1)
		if i%2 == 0 {
			blocks[i].Insts = []api.Inst{Number(i, 4)}
		}
	}
	blocks[api.MaxVals-1] = Answers(api.MaxVals - 2)
	c := Main(blocks...)
	c.Funs[0].Vals = api.MaxVals
	d := mustFit(t, c)
	if code.Size(d) != 1 {
		t.Error(code.Size(d))
	}
	holdRuns(t, c, d, nil, 200000)
}
