package live_test

import (
	"slices"
	"testing"

	"teasel/api"
	"teasel/code"
	"teasel/live"
	. "teasel/parts"
)

// rising answers the numbers from the first one to ahead of the end.
func rising(first, end int) []int {
	var l []int
	for v := first; v < end; v++ {
		l = append(l, v)
	}
	return l
}

// sized answers plain code of one function with so many values.
func sized(t *testing.T, vals int, blocks ...api.Block) api.Code {
	t.Helper()
	c := Main(blocks...)
	c.Funs[0].Vals = vals
	if !code.Plain(c) {
		t.Fatal("the code isn't plain", code.Check(c))
	}
	return c
}

// wantAllClash holds that each two of some values that follow one another clash, and that no other values do.
func wantAllClash(t *testing.T, c api.Code, all bool, first, end int) {
	t.Helper()
	l, e := live.Clashes(c, 0, all)
	if n := end - first; e != api.OK || len(l) != n*(n-1)/2 {
		t.Fatal(e, len(l))
	}
	i := 0
	for v := first; v < end; v++ {
		for w := v + 1; w < end; w++ {
			if l[i] != [2]int{v, w} {
				t.Fatal(l[i], v, w)
			}
			i++
		}
	}
}

// TestManyValuesInARow: made one by one, then used one by one.
func TestManyValuesInARow(t *testing.T) {
	var l []api.Inst
	for v := range 1000 {
		l = append(l, Read(v))
	}
	for v := range 1000 {
		l = append(l, Show(v))
	}
	c := sized(t, 2000, Ends(l...))
	wantAllClash(t, c, false, 0, 1000)
	for at := 0; at < 2000; at += 111 {
		if l, e := live.Ahead(c, 0, false, 0, at); e != api.OK || !slices.Equal(l, rising(max(0, at-1000), min(at, 1000))) {
			t.Error(at, e, l)
		}
	}
}

// TestAMarkThatKnowsManyValues: with all, each two of 2,000 clash.
func TestAMarkThatKnowsManyValues(t *testing.T) {
	var l []api.Inst
	mark := Mark()
	for v := range 2000 {
		l = append(l, Number(v, 1))
		mark.Dbg = append(mark.Dbg, IsValue(v, v, 1, 0))
	}
	c := sized(t, 2000, Ends(append(l, mark)...))
	wantAllClash(t, c, true, 0, 2000)
	if l, e := live.Ahead(c, 0, true, 0, 2000); e != api.OK || !slices.Equal(l, rising(0, 2000)) {
		t.Error(e, l)
	}
	if l, e := live.Clashes(c, 0, false); e != api.OK || len(l) != 0 {
		t.Error(e, len(l))
	}
}

// TestManyPhisOfOneBlock: used by nobody, and by each other.
func TestManyPhisOfOneBlock(t *testing.T) {
	var phis []api.Inst
	for v := range 1990 {
		phis = append(phis, Phi(2+v, 0, 2+v))
	}
	c := sized(t, 2000, Goes(1, Number(0, 1)), Behind(Goes(2), phis...), Branch(1995, 3, 4, Read(1995)), Ends(), Goes(1))
	l, e := live.Clashes(c, 0, false)
	if n := 1990; e != api.OK || len(l) != n*(n-1)/2+n {
		t.Error(e, len(l))
	}
	begins, ends, e := live.Ends(c, 0, false)
	values := rising(2, 1992)
	if e != api.OK || !slices.Equal(begins[1], values) || !slices.Equal(ends[4], values) || !slices.Equal(ends[0], []int{0}) || len(begins[3]) != 0 {
		t.Error(e, begins, ends)
	}
	for i := range phis {
		phis[i].Args[1] = 0
	}
	c = sized(t, 1992, Goes(1, Number(0, 1)), Behind(Branch(1, 2, 3, Read(1)), phis...), Goes(1), Ends())
	if l, e := live.Clashes(c, 0, false); e != api.OK || len(l) != 1990*1989/2+1990+1 || l[0] != [2]int{0, 1} || l[1] != [2]int{0, 2} || l[1991] != [2]int{2, 3} {
		t.Error(e, len(l))
	}
}

// TestManyValuesThroughManyBlocks: in a row, all of them live at each block's ends.
func TestManyValuesThroughManyBlocks(t *testing.T) {
	var made, used []api.Inst
	for v := range 1000 {
		made, used = append(made, Read(v)), append(used, Show(v))
	}
	blocks := []api.Block{Goes(1, made...)}
	for i := range 1998 {
		blocks = append(blocks, Goes(2+i))
	}
	c := sized(t, 2000, append(blocks, Ends(used...))...)
	begins, ends, e := live.Ends(c, 0, false)
	if e != api.OK {
		t.Fatal(e)
	}
	for i := range 1999 {
		if i > 0 && !slices.Equal(begins[i], rising(0, 1000)) || !slices.Equal(ends[i], rising(0, 1000)) {
			t.Fatal(i, begins[i], ends[i])
		}
	}
	wantAllClash(t, c, false, 0, 1000)
}

// nest is loops in loops, so many: each has a head that goes on to the next one's or out of its own, and a block that goes back to it; the innermost one uses the values, which are made ahead of all.
func nest(loops, values int) []api.Block {
	first := Goes(1)
	for v := range values {
		first.Insts = append(first.Insts, Read(v))
	}
	blocks := []api.Block{first}
	for i := range loops {
		out := loops + i
		if i == 0 {
			out = 2*loops + 1
		}
		blocks = append(blocks, Branch(0, i+2, out))
	}
	for i := range loops {
		blocks = append(blocks, Goes(1+i))
	}
	for v := range values {
		blocks[2*loops].Insts = append(blocks[2*loops].Insts, Show(v))
	}
	blocks[loops].To = 2 * loops
	return append(blocks, Ends())
}

// TestDeepLoops: what the innermost one uses is live in all of them.
func TestDeepLoops(t *testing.T) {
	c := sized(t, 2000, nest(990, 900)...)
	begins, ends, e := live.Ends(c, 0, false)
	if e != api.OK {
		t.Fatal(e)
	}
	for i := 1; i <= 2*990; i++ {
		if !slices.Equal(begins[i], rising(0, 900)) || !slices.Equal(ends[i], rising(0, 900)) {
			t.Fatal(i, len(begins[i]), len(ends[i]))
		}
	}
	if last := 2*990 + 1; len(begins[last]) != 0 || len(ends[last]) != 0 {
		t.Error(begins[last], ends[last])
	}
	wantAllClash(t, c, false, 0, 900)
}

// TestTheLongestCode: with as many instructions, values and blocks as there may be.
func TestTheLongestCode(t *testing.T) {
	const values = 300
	var l []api.Inst
	for v := range values {
		l = append(l, Number(v, 1))
	}
	for len(l) < api.MaxCode-values {
		l = append(l, Mark(IsValue(0, len(l)%values, 1, 0)))
	}
	blocks := []api.Block{Goes(1, l...)}
	for i := range api.MaxVals - 2 {
		blocks = append(blocks, Goes(2+i))
	}
	last := Ends()
	for v := range values {
		last.Insts = append(last.Insts, Show(v))
	}
	c := sized(t, api.MaxVals, append(blocks, last)...)
	for _, all := range []bool{false, true} {
		if l, e := live.Ahead(c, 0, all, 0, 12345); e != api.OK || !slices.Equal(l, rising(0, values)) {
			t.Error(e, l)
		}
		wantAllClash(t, c, all, 0, values)
	}
	begins, ends, e := live.Ends(c, 0, false)
	if e != api.OK || !slices.Equal(begins[1], rising(0, values)) || !slices.Equal(ends[api.MaxVals-2], rising(0, values)) {
		t.Error(e)
	}
}
