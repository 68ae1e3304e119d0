package dead_test

import (
	"testing"

	"teasel/api"
	"teasel/code"
	"teasel/dead"
	. "teasel/parts"
)

// mustFit answers what long code becomes; its form is held elsewhere, as that takes long.
func mustFit(t *testing.T, c api.Code) api.Code {
	t.Helper()
	d, e := dead.Run(c)
	if e != api.OK || !code.Plain(d) {
		t.Fatal(e, code.Check(d), code.Check(c))
	}
	return d
}

// TestTheLongestRow: of as many instructions as there may be, each of which is needed, or told, by the one ahead.
func TestTheLongestRow(t *testing.T) {
	l := []api.Inst{Read(0), Number(1, 3)}
	from := 0
	for v := 2; v < api.MaxCode-1; v++ {
		l = append(l, Inst(api.Add, v, from, 1))
		from = v
	}
	c := Main(Ends(append(l, Mark(IsValue(0, api.MaxCode-2, 1, 0)))...))
	c.Funs[0].Vals = api.MaxVals
	d := mustFit(t, c)
	if code.Size(d) != 2 {
		t.Error(code.Size(d))
	}
	if k := d.Funs[0].Blocks[0].Insts[1].Dbg; len(k) != 1 || k[0] != IsValue(0, 0, 1, 3*(api.MaxCode-3)) {
		t.Errorf("%+v", k)
	}
	c.Funs[0].Blocks[0].End, c.Funs[0].Blocks[0].Arg = api.RetVal, api.MaxCode-2
	if d := mustFit(t, c); code.Size(d) != api.MaxCode {
		t.Error(code.Size(d))
	}
}

// TestRowsThatDouble: each value is made twice from the one ahead of it, so that the ways back to the first one can't be counted.
func TestRowsThatDouble(t *testing.T) {
	l := []api.Inst{Read(0), Number(1, 1)}
	l = append(l, Inst(api.Add, 2, 0, 1))
	for v := 3; v < 10000; v++ {
		l = append(l, Inst(api.Add, v, v-1, v-1))
	}
	for _, op := range []byte{api.Add, api.Sub, api.Xor} {
		l[9999].Op = op
		c := Main(Ends(append(l, Mark(IsValue(0, 9999, 1, 6), IsValue(1, 60, 1, 6)))...))
		c.Funs[0].Vals = 10000
		d := mustFit(t, c)
		if code.Size(d) != 2 {
			t.Error(code.Size(d))
		}
		if end := holdRuns(t, c, d, nums(5), 99999); end != api.Halt {
			t.Error(end)
		}
	}
}

// TestManyPhis: each of which needs the one behind it, or is needed by it.
func TestManyPhis(t *testing.T) {
	const n = 10000
	blocks := []api.Block{Branch(0, 1, 2, Read(0))}
	for i := range n {
		at := len(blocks)
		blocks = append(blocks, Goes(at+2), Goes(at+2), Behind(Branch(0, at+3, at+4), Phi(i+1, i, 0)))
	}
	last := len(blocks) - 1
	for _, ends := range []api.Block{Ends(), Answers(n)} {
		ends.Phis = blocks[last].Phis
		blocks[last] = ends
		c := Main(blocks...)
		c.Funs[0].Vals = api.MaxVals
		want := 1
		if ends.End == api.RetVal {
			want = n + 1
		}
		if d := mustFit(t, c); code.Size(d) != want {
			t.Error(code.Size(d), want)
		}
	}
}

// TestManySmallFunctions: each may have as many values as there may be, and makes none.
func TestManySmallFunctions(t *testing.T) {
	c := Program(Fun(0, Ends()))
	for len(c.Funs) < 20000 {
		c.Funs = append(c.Funs, api.Fun{Vals: api.MaxVals, Blocks: []api.Block{Ends(Number(api.MaxVals-1, 1))}})
	}
	if d := mustFit(t, c); code.Size(d) != 0 || len(d.Funs) != 20000 {
		t.Error(code.Size(d))
	}
}
