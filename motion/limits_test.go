package motion_test

import (
	"reflect"
	"testing"

	"teasel/api"
	"teasel/code"
	"teasel/motion"
	. "teasel/parts"
)

// mustFit answers what long code becomes; its form is held elsewhere, as that takes long.
func mustFit(t *testing.T, c api.Code) api.Code {
	t.Helper()
	d, e := motion.Run(c)
	if e != api.OK || !code.Plain(d) {
		t.Fatal(e, code.Check(d), code.Check(c))
	}
	return d
}

func wantErrLimit(t *testing.T, c api.Code) {
	t.Helper()
	if !code.Plain(c) {
		t.Fatal("the code isn't plain")
	}
	if d, e := motion.Run(c); e != api.ErrLimit || !reflect.DeepEqual(d, api.Code{}) {
		t.Errorf("%d beside %s", e, told(d))
	}
}

// size answers how many instructions, phis and blocks code has.
func size(c api.Code) int {
	return code.Size(c) + blocks(c)
}

// forked is a loop whose head has so many phis, each with two values from outside: so many phis are needed ahead.
func forked(phis int) api.Fun {
	f := Fun(1, Branch(0, 1, 2, Param(0, 0), Number(1, 5)), Goes(3), Goes(3), Branch(0, 3, 4), Ends())
	for v := range phis {
		f.Blocks[3].Phis = append(f.Blocks[3].Phis, Phi(2+v, 0, 1, 2+v))
	}
	f.Vals = 2 + phis
	return f
}

// padded lets code have so many instructions and phis.
func padded(c api.Code, n int) api.Code {
	for n -= code.Size(c); n > 0; n-- {
		b := &c.Funs[0].Blocks[0]
		b.Insts = append(b.Insts, Show(0))
	}
	return c
}

func caller(funs ...api.Fun) api.Code {
	return Program(append([]api.Fun{Fun(0, Ends(Read(0), Call(-1, 1, 0)))}, funs...)...)
}

// TestSmallCodeIsNotRefused: of 2,000 instructions, phis and blocks, with 2,000 values: though it needs as many phis and blocks more as it can.
func TestSmallCodeIsNotRefused(t *testing.T) {
	c := caller(forked(1900))
	padded(c, 2000-blocks(c))
	c.Funs[1].Vals = 2000
	if n := size(c); n != 2000 {
		t.Fatal(n)
	}
	d := mustRun(t, c)
	if n := Count(d, api.IPhi); n != 2*1900 || d.Funs[1].Vals != 2+2*1900 {
		t.Error(n, d.Funs[1].Vals)
	}
	holdRuns(t, c, d, nums(0), 9000)
	// Each block is a loop, entered from a branch.
	l := []api.Block{Branch(0, 1, 1998, Read(0))}
	for i := 1; i < 1998; i++ {
		l = append(l, Branch(0, i, i+1))
	}
	c = Main(append(l, Ends())...)
	c.Funs[0].Vals = 2000
	if n := size(c); n != 2000 {
		t.Fatal(n)
	}
	d = mustRun(t, c)
	if n := len(d.Funs[0].Blocks); n != 1999+1997 {
		t.Error(n)
	}
	holdRuns(t, c, d, nums(0), 9000)
}

// TestTooManyPhis: with just as many instructions and phis as there may be it is OK, with one more it isn't, in one function or in several.
func TestTooManyPhis(t *testing.T) {
	for _, x := range []struct{ size, phis int }{{api.MaxCode - 1, 1}, {api.MaxCode - 30, 30}, {api.MaxCode - 15000, 15000}} {
		c := padded(caller(forked(x.phis)), x.size)
		if n := code.Size(mustFit(t, c)); n != api.MaxCode {
			t.Error(n)
		}
		wantErrLimit(t, padded(c, x.size+1))
		c = padded(caller(forked(x.phis-x.phis/2), Fun(0, Ends()), forked(x.phis/2)), x.size)
		if n := code.Size(mustFit(t, c)); n != api.MaxCode {
			t.Error(n)
		}
		wantErrLimit(t, padded(c, x.size+1))
	}
	wantErrLimit(t, caller(forked(19998), forked(19990)))
	c := caller(forked(api.MaxCode - 10))
	wantErrLimit(t, c)
	// All that is moved is no more than there was.
	c = padded(Main(Goes(1, Read(0)), Branch(0, 1, 2), Ends()), api.MaxCode)
	for i := range c.Funs[0].Blocks[0].Insts[1:] {
		c.Funs[0].Blocks[1].Insts = append(c.Funs[0].Blocks[1].Insts, Number(i+1, 6))
	}
	c.Funs[0].Blocks[0].Insts = c.Funs[0].Blocks[0].Insts[:1]
	c.Funs[0].Vals = api.MaxVals
	if d := mustFit(t, c); code.Size(d) != api.MaxCode || len(d.Funs[0].Blocks[0].Insts) != api.MaxCode {
		t.Error(code.Size(d))
	}
}

// row is so many blocks that go on from each to the next one, from the first one to a loop.
func row(n int) api.Fun {
	f := Fun(0, Branch(0, 1, 2, Read(0)), Branch(0, 1, 2))
	for i := 2; i < n; i++ {
		f.Blocks = append(f.Blocks, Goes(i+1))
	}
	f.Blocks[n-1] = Ends()
	return f
}

// TestTooManyBlocks: as many as there may be in each function, or one more.
func TestTooManyBlocks(t *testing.T) {
	for _, others := range [][]api.Fun{nil, {row(1000), row(api.MaxVals - 1)}} {
		c := Program(append([]api.Fun{row(api.MaxVals - 1)}, others...)...)
		if n := len(mustFit(t, c).Funs[0].Blocks); n != api.MaxVals {
			t.Error(n)
		}
		c.Funs[len(others)] = row(api.MaxVals)
		wantErrLimit(t, c)
	}
	// None is needed where one goes on to the head alone.
	f := row(api.MaxVals)
	f.Blocks[0] = Goes(1, Read(0))
	if n := len(mustFit(t, Program(f)).Funs[0].Blocks); n != api.MaxVals {
		t.Error(n)
	}
	// As many loops as there may be, all of which need one.
	for i := 1; i < api.MaxVals-1; i++ {
		f.Blocks[i] = Branch(0, i, i+1)
	}
	wantErrLimit(t, Program(f))
}

// TestValuesNearTheEnd: new ones take numbers that are free.
func TestValuesNearTheEnd(t *testing.T) {
	c := caller(forked(3))
	f := &c.Funs[1]
	f.Vals = api.MaxVals
	f.Blocks[0].Insts = append(f.Blocks[0].Insts, Number(api.MaxVals-1, 4), Number(6, 4))
	d := mustRun(t, c)
	want := []api.Inst{Phi(5, 0, 1), Phi(7, 0, 1), Phi(8, 0, 1)}
	if g := d.Funs[1]; g.Vals != api.MaxVals || !reflect.DeepEqual(g.Blocks[5].Phis, want) {
		t.Errorf("%d, %+v", g.Vals, g.Blocks[5])
	}
}

// TestTheDeepestNest: as many loops in one another as there may be, in the innermost of which stands what goes all the way out, or to its middle, or to the next one.
func TestTheDeepestNest(t *testing.T) {
	const loops, row = 29990, 5000
	l := []api.Block{Goes(1, Read(0))}
	for i := range loops {
		l = append(l, Goes(i+2))
		if i == loops/2 {
			l[i+1].Insts = []api.Inst{Read(1)}
		}
	}
	var insts []api.Inst
	for i := range row {
		v := 10 + 4*i
		insts = append(insts, Inst(api.Neg, v, 0), Inst(api.Add, v+1, v, 1), Inst(api.Not, v+2, 2), Inst(api.Sub, v+3, v+2, v+1))
	}
	l[loops-1].Insts = []api.Inst{Read(2)}
	l = append(l, Goes(loops+2, insts...))
	for i := range loops {
		l = append(l, Branch(3, loops-i, loops+3+i))
	}
	l[loops+1].Insts = append(l[loops+1].Insts, Read(3))
	c := Main(append(l, Ends(Show(10), Show(11), Show(12)))...)
	c.Funs[0].Vals = api.MaxVals
	d := mustFit(t, c)
	for _, x := range []struct{ value, block int }{{10, 0}, {11, loops/2 + 1}, {12, loops - 1}, {13, loops - 1}, {9 + 4*row, loops - 1}} {
		if got := home(d, x.value); got != x.block {
			t.Errorf("%d is made in the block %d, not %d", x.value, got, x.block)
		}
	}
	for _, input := range [][]int64{{5, 6, 7, 0}, {5, 6, 7, 1, 9, 1, 0}} {
		if end := holdRuns(t, c, d, input, 300000); end != api.Halt && end != api.TrapIn {
			t.Error(end)
		}
	}
}

// TestManySmallFunctions: each may have as many values as there may be, and makes few.
func TestManySmallFunctions(t *testing.T) {
	c := Program(Fun(0, Ends()))
	for len(c.Funs) < 10000 {
		c.Funs = append(c.Funs, api.Fun{Vals: api.MaxVals, Blocks: []api.Block{Goes(1, Number(0, 1)), Branch(0, 1, 2, Number(api.MaxVals-1, 1)), Ends()}})
	}
	if d := mustFit(t, c); code.Size(d) != code.Size(c) || len(d.Funs) != 10000 || len(d.Funs[77].Blocks[0].Insts) != 2 {
		t.Error(code.Size(d))
	}
}
