package code_test

import (
	"reflect"
	"testing"

	"teasel/api"
	"teasel/code"
	"teasel/samples"
)

// inst answers one that makes a value (or -1) from others.
func inst(op byte, dst int, imm int64, args ...int) api.Inst {
	return api.Inst{Op: op, Dst: dst, Imm: imm, Args: args}
}

// seven answers one function that answers 7.
func seven() api.Code {
	b := api.Block{Insts: []api.Inst{inst(api.IConst, 0, 7)}, End: api.RetVal}
	return api.Code{Funs: []api.Fun{{Vals: 1, Blocks: []api.Block{b}}}}
}

func TestExamples(t *testing.T) {
	c := seven()
	if code.Check(c) != api.OK || !code.Plain(c) || code.Size(c) != 1 {
		t.Error("seven")
	}
	c.Funs[0].Vals = 2
	c.Funs[0].Blocks[0].Insts = append(c.Funs[0].Blocks[0].Insts, inst(api.ICopy, 1, 0, 1))
	if code.Check(c) != api.ErrForm || code.Plain(c) || code.Size(c) != 2 {
		t.Error("a value that is made from itself")
	}
	c.Funs[0].Blocks[0].Insts[1].Args[0] = 0
	if code.Check(c) != api.OK || !code.Plain(c) {
		t.Error("a value that is made from one ahead")
	}
	if code.Check(api.Code{}) != api.ErrForm || code.Plain(api.Code{}) || code.Size(api.Code{}) != 0 {
		t.Error("no functions")
	}
}

// TestPlain: of each thing that names a variable one alone.
func TestPlain(t *testing.T) {
	for name, x := range map[string]struct {
		inst  api.Inst
		plain bool
	}{
		"IGet":                        {inst(api.IGet, 1, 0), false},
		"ISet":                        {inst(api.ISet, -1, 0, 0), false},
		"a Mark that knows":           {api.Inst{Op: api.IMark, Dst: -1, Dbg: []api.Dbg{{Kind: api.DNum}, {Var: 1, Kind: api.DVar}}}, false},
		"a Call that knows":           {api.Inst{Op: api.ICall, Dst: 1, Dbg: []api.Dbg{{Var: 1, Kind: api.DVar}}}, false},
		"a Mark with values":          {api.Inst{Op: api.IMark, Dst: -1, Dbg: []api.Dbg{{Kind: api.DNum}, {Var: 1, Kind: api.DVal}}}, true},
		"what nobody looks at":        {api.Inst{Op: api.IPrint, Dst: -1, Args: []int{0}, Dbg: []api.Dbg{{Kind: api.DVar}}}, true},
		"an instruction that's wrong": {inst(api.IPrint, -1, 0, 9), false},
	} {
		c := seven()
		c.Funs[0].Vals, c.Funs[0].Vars = 2, 1
		c.Stops = [][]api.Spot{{{Stmt: 1}}}
		c.Funs[0].Blocks[0].Insts = append(c.Funs[0].Blocks[0].Insts, x.inst)
		if e := code.Check(c); (e == api.OK) != (name != "an instruction that's wrong") {
			t.Errorf("%s: %d", name, e)
		}
		if code.Plain(c) != x.plain {
			t.Errorf("%s: plain isn't %v", name, x.plain)
		}
	}
	c := seven()
	c.Funs[0].Vars = 3
	if !code.Plain(c) {
		t.Error("variables that nobody asks are no fault")
	}
	c.Funs = append(c.Funs, api.Fun{Vars: 1, Vals: 1, Blocks: []api.Block{{End: api.GoTo, To: 1}, {Insts: []api.Inst{inst(api.IGet, 0, 0)}, End: api.RetNone}}})
	if code.Check(c) != api.OK || code.Plain(c) {
		t.Error("a variable far behind")
	}
}

func TestGraph(t *testing.T) {
	for _, x := range []struct {
		blocks []api.Block
		want   [][]int
	}{
		{nil, nil},
		{[]api.Block{{To: 1, Else: 2}}, [][]int{nil}},
		{[]api.Block{{End: api.GoTo, To: 2, Else: 1}, {End: api.Branch, To: 2, Else: 1}, {End: api.RetVal, To: 1, Else: 1}, {End: api.RetNone, To: 1}, {End: 5, To: 1, Else: 2}, {End: 255}},
			[][]int{{2}, {2, 1}, nil, nil, nil, nil}},
		{[]api.Block{{End: api.Branch}, {End: api.Branch, To: -5, Else: 1 << 62}, {End: api.GoTo, To: 99}}, [][]int{{0, 0}, {-5, 1 << 62}, {99}}},
	} {
		g := code.Graph(api.Fun{Blocks: x.blocks})
		if len(g) != len(x.want) {
			t.Fatalf("%v: %v", x.blocks, g)
		}
		for i := range g {
			if len(g[i])+len(x.want[i]) > 0 && !reflect.DeepEqual(g[i], x.want[i]) {
				t.Errorf("%v: %v, want %v", x.blocks, g, x.want)
			}
		}
	}
}

func TestSize(t *testing.T) {
	phi, add := api.Inst{Op: api.IPhi}, api.Inst{Op: 200}
	c := api.Code{Funs: []api.Fun{{}, {Blocks: make([]api.Block, 3)}, {Blocks: []api.Block{{Phis: []api.Inst{phi, phi}}, {Insts: []api.Inst{add, add, add}}, {Phis: []api.Inst{phi}, Insts: []api.Inst{add}}}}}}
	if n := code.Size(c); n != 7 {
		t.Error(n)
	}
	c.Funs = append(c.Funs, c.Funs[2])
	if n := code.Size(c); n != 14 {
		t.Error(n)
	}
}

// TestCopy: it is the same, and goes its own way: no list of it shares memory with the code, nor with another one.
func TestCopy(t *testing.T) {
	for seed := range uint64(200) {
		c, same := samples.Code(seed, 3, int(seed%3)), samples.Code(seed, 3, int(seed%3))
		d, again := code.Copy(c), code.Copy(c)
		if !reflect.DeepEqual(d, c) {
			t.Fatal("another code", seed)
		}
		spoil(reflect.ValueOf(&d).Elem())
		if !reflect.DeepEqual(c, same) || !reflect.DeepEqual(again, same) {
			t.Fatal("a copy shares memory", seed)
		}
		spoil(reflect.ValueOf(&c).Elem())
		if !reflect.DeepEqual(again, same) {
			t.Fatal("a copy shares memory with the code", seed)
		}
	}
}

func TestCopyOfWrongCode(t *testing.T) {
	for _, c := range []api.Code{
		{}, {Main: -4}, {Funs: []api.Fun{}, Stops: [][]api.Spot{}}, {Funs: make([]api.Fun, 3), Stops: make([][]api.Spot, 2), Main: 9},
		{Funs: []api.Fun{{Params: -1, Vars: 1 << 40, Vals: -7, Blocks: []api.Block{{Phis: []api.Inst{{Op: 9, Dst: -3, Imm: 5, Site: -8, Dbg: []api.Dbg{{Kind: 77, Depth: -1, Var: -2, Arg: -3, A: 4, B: 5}}}}, End: 99, Arg: 1, To: 2, Else: 3}}}}},
	} {
		if d := code.Copy(c); !reflect.DeepEqual(d, c) {
			t.Errorf("Copy(%+v) = %+v", c, d)
		}
	}
}

// spoil writes over all numbers of a thing, spare room of its lists too, and over the lists themselves.
func spoil(v reflect.Value) {
	switch v.Kind() {
	case reflect.Struct:
		for i := range v.NumField() {
			spoil(v.Field(i))
		}
	case reflect.Slice:
		l := v.Slice(0, v.Cap())
		for i := range l.Len() {
			spoil(l.Index(i))
			if l.Index(i).Kind() == reflect.Slice {
				l.Index(i).SetZero()
			}
		}
	case reflect.Int, reflect.Int64:
		v.SetInt(-77)
	case reflect.Uint8:
		v.SetUint(177)
	}
}

// TestListsOfACopyAreApart: lists that share memory in the code don't in the copy.
func TestListsOfACopyAreApart(t *testing.T) {
	args := []int{1, 2}
	x := api.Inst{Op: api.Add, Dst: 3, Args: args, Dbg: make([]api.Dbg, 2)}
	insts := []api.Inst{x, x}
	b := api.Block{Phis: insts, Insts: insts}
	stop := []api.Spot{{Fn: 1, Stmt: 2}}
	c := api.Code{Funs: []api.Fun{{Blocks: []api.Block{b, b}}, {Blocks: []api.Block{b, b}}}, Stops: [][]api.Spot{stop, stop}}
	d := code.Copy(c)
	want := code.Copy(c)
	blocks := d.Funs[0].Blocks
	spoil(reflect.ValueOf(&blocks[0].Insts[0]).Elem())
	blocks[0].Insts[0] = code.Copy(c).Funs[0].Blocks[0].Insts[0]
	spoil(reflect.ValueOf(&d.Stops[0]).Elem())
	d.Stops[0] = []api.Spot{{Fn: 1, Stmt: 2}}
	if !reflect.DeepEqual(d, want) {
		t.Error("two lists of a copy share memory")
	}
}

// TestAnswersAreNewMemory: of Graph.
func TestAnswersAreNewMemory(t *testing.T) {
	f := api.Fun{Blocks: []api.Block{{End: api.Branch, To: 1, Else: 2}, {End: api.Branch, To: 2, Else: 1}, {End: api.RetNone}}}
	a, b := code.Graph(f), code.Graph(f)
	spoil(reflect.ValueOf(&a[0]).Elem())
	if !reflect.DeepEqual(a[1:], b[1:]) || !reflect.DeepEqual(b, code.Graph(f)) {
		t.Error("lists share memory")
	}
}
