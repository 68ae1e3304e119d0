package alloc_test

import (
	"reflect"
	"testing"

	"teasel/alloc"
	"teasel/api"
	"teasel/code"
	. "teasel/parts"
)

// ways is a function of so many branches, one way of each of which goes to one block, that has phis.
func ways(branches, phis int) api.Fun {
	var f api.Fun
	last := branches
	for i := range branches {
		f.Blocks = append(f.Blocks, Branch(0, last, i+1))
	}
	f.Blocks[0].Insts = []api.Inst{Number(0, 1), Number(1, 2)}
	f.Blocks[branches-1].End = api.GoTo
	f.Blocks[branches-1].To, f.Blocks[branches-1].Else = last, 0
	f.Blocks = append(f.Blocks, Ends(Mark(IsValue(0, 2, 1, 0))))
	for v := range phis {
		x := Phi(2 + v)
		for i := range branches {
			x.Args = append(x.Args, i%2)
		}
		f.Blocks[last].Phis = append(f.Blocks[last].Phis, x)
	}
	f.Vals = 2 + phis
	return f
}

// fits answers what long code becomes, which is plain; its form is held elsewhere, as that takes long.
func fits(t *testing.T, c api.Code) api.Code {
	t.Helper()
	d, e := alloc.Split(c)
	if e != api.OK || !code.Plain(d) || code.Size(d) != code.Size(c) {
		t.Fatal(e, code.Check(d), code.Check(c))
	}
	return d
}

// TestSmallCodeIsNotRefused: of 2,000 instructions, phis and blocks, with 2,000 values: all ways are to be parted.
func TestSmallCodeIsNotRefused(t *testing.T) {
	c := Program(ways(1000, 996))
	c.Funs[0].Vals = 2000
	if n := code.Size(c) + len(c.Funs[0].Blocks); n != 2000 {
		t.Fatal(n)
	}
	d := fits(t, c)
	if n := len(d.Funs[0].Blocks); n != 1001+999 {
		t.Error(n)
	}
	holdRuns(t, c, d, nil, 9000, true)
	c = Program(ways(1995, 1))
	if n := code.Size(c) + len(c.Funs[0].Blocks); n != 2000 {
		t.Fatal(n)
	}
	if n := len(fits(t, c).Funs[0].Blocks); n != 1996+1994 {
		t.Error(n)
	}
}

// TestTooManyBlocks: as many as there may be in each function, or one more.
func TestTooManyBlocks(t *testing.T) {
	for _, others := range [][]api.Fun{nil, {ways(api.MaxVals/2, 1), ways(100, 1)}} {
		c := Program(append([]api.Fun{ways(api.MaxVals/2, 1)}, others...)...)
		for _, f := range fits(t, c).Funs[:max(1, len(others))] {
			if n := len(f.Blocks); n != api.MaxVals {
				t.Error(n)
			}
		}
		f := ways(api.MaxVals/2, 1)
		last := len(f.Blocks) - 1
		f.Blocks[last].End, f.Blocks[last].To = api.GoTo, last+1
		f.Blocks = append(f.Blocks, Ends())
		c.Funs[len(others)] = f
		if d, e := alloc.Split(c); e != api.ErrLimit || !reflect.DeepEqual(d, api.Code{}) || !code.Plain(c) {
			t.Error(e, told(d))
		}
	}
	// As many blocks as there may be are no fault where none is to be parted.
	f := ways(api.MaxVals-1, 1)
	f.Blocks[api.MaxVals-1].Phis = nil
	f.Blocks[api.MaxVals-1].Insts = nil
	if n := len(fits(t, Program(f)).Funs[0].Blocks); n != api.MaxVals {
		t.Error(n)
	}
}

// TestManyValuesAtOnce: 1,000 one by one, and what a mark knows of 1,999.
func TestManyValuesAtOnce(t *testing.T) {
	c := atOnce(1000, false)
	c.Funs[0].Vals = 2000
	l := mustPlace(t, c, 0, true)
	if n, unlike := count(l, alloc.Slot); n != 1000-room || unlike != n {
		t.Error(n, unlike)
	}
	c = atOnce(1999, true)
	c.Funs[0].Vals = 2000
	l = mustPlace(t, c, 0, true)
	if n, unlike := count(l, alloc.Slot); n != 1999-room || unlike != n {
		t.Error(n, unlike)
	}
	for _, all := range []bool{false, true} {
		d, e := alloc.Recovers(c, 0, all, 0, 1999)
		if e != api.OK || all && !reflect.DeepEqual(d, c.Funs[0].Blocks[0].Insts[1999].Dbg) || !all && len(d) != 0 {
			t.Error(all, e, len(d))
		}
	}
}

// TestManyValuesThroughManyBlocks: in a row of blocks, and in loops in loops.
func TestManyValuesThroughManyBlocks(t *testing.T) {
	made, used := atOnce(500, false).Funs[0].Blocks[0].Insts[:500], atOnce(500, false).Funs[0].Blocks[0].Insts[500:]
	row := []api.Block{Goes(1, made...)}
	for i := range 998 {
		row = append(row, Goes(2+i))
	}
	const loops = 490
	nest := []api.Block{Goes(1, made...)}
	for i := range loops {
		nest = append(nest, Branch(0, i+2, loops+1+i))
	}
	nest[loops].To = 2*loops + 1
	for i := range loops {
		nest = append(nest, Goes(max(i, 1)))
	}
	nest[loops+1] = Ends()
	for _, blocks := range [][]api.Block{append(row, Ends(used...)), append(nest, Goes(loops, used...))} {
		c := Main(blocks...)
		c.Funs[0].Vals = 2000
		if !code.Plain(c) {
			t.Fatal(code.Check(c))
		}
		if n, _ := count(mustPlace(t, c, 0, false), alloc.Slot); n != 500-room {
			t.Error(n)
		}
	}
}

// TestTheLongestRows: of as many instructions as there may be: values that are told by each other, all at once, or one by one.
func TestTheLongestRows(t *testing.T) {
	l := []api.Inst{Read(0), Number(1, 3), Inst(api.Add, 2, 0, 1)}
	for v := 3; v < api.MaxCode-2; v++ {
		l = append(l, Inst(api.Add, v, v-1, 1))
	}
	c := Main(Ends(append(l, Mark(IsValue(0, api.MaxCode-3, 1, 0)), Show(0))...))
	c.Funs[0].Vals = api.MaxVals
	if d, e := alloc.Recovers(c, 0, false, 0, api.MaxCode-2); e != api.OK || len(d) != 1 || d[0] != IsValue(0, 0, 1, 3*(api.MaxCode-4)) {
		t.Error(e, d)
	}
	if p := mustPlace(t, c, 0, false); p[api.MaxCode-3].Kind != alloc.Register {
		t.Error(p[api.MaxCode-3])
	}
	c = atOnce(api.MaxCode-1, true)
	if p, e := alloc.Places(c, 0, true); e != api.OK || p[api.MaxCode-2] == p[0] {
		t.Error(e, len(p))
	} else if n, unlike := count(p, alloc.Slot); n != api.MaxCode-1-room || unlike != n {
		t.Error(n, unlike)
	}
	c = atOnce(api.MaxCode/2, false)
	if p, e := alloc.Places(c, 0, false); e != api.OK {
		t.Error(e)
	} else if n, unlike := count(p, alloc.Slot); n != api.MaxCode/2-room || unlike != n {
		t.Error(n, unlike)
	}
}

// TestRowsThatDouble: each value is made twice from the one ahead of it, so that the ways back to the first one can't be counted.
func TestRowsThatDouble(t *testing.T) {
	l := []api.Inst{Number(0, 1), Inst(api.Add, 1, 0, 0)}
	for v := 2; v < 10000; v++ {
		l = append(l, Inst(api.Sub, v, v-1, v-1))
	}
	c := Main(Ends(append(l, Mark(IsValue(0, 9999, 1, 6), IsValue(1, 1, 1, 6)))...))
	c.Funs[0].Vals = 10000
	if d, e := alloc.Recovers(c, 0, false, 0, 10000); e != api.OK || !reflect.DeepEqual(d, []api.Dbg{IsNumber(1, 8)}) {
		t.Error(e, d)
	}
}
