package alike_test

import (
	"testing"

	"teasel/alike"
	"teasel/api"
	"teasel/code"
	. "teasel/parts"
	"teasel/samples"
)

// sample prints, has two marks, divides, and answers what it read.
func sample() api.Code {
	return Main(Answers(0, Read(0), Show(0), Mark(IsValue(0, 0, 2, 1), IsNumber(1, 5)), Read(1), At(2, Inst(api.Div, 2, 0, 1)), Show(2), At(1, Mark(IsValue(2, 2, 1, 0), Deeper(1, IsNumber(0, 9))))))
}

// TestDifferences: each thing that must be alike, changed alone.
func TestDifferences(t *testing.T) {
	for name, x := range map[string]struct {
		change  func(l []api.Inst, c *api.Code)
		input   []int64
		differs bool
	}{
		"nothing":                  {func(l []api.Inst, c *api.Code) {}, []int64{6, 2}, false},
		"nothing, and it traps":    {func(l []api.Inst, c *api.Code) {}, []int64{6, 0}, false},
		"another print":            {func(l []api.Inst, c *api.Code) { l[5].Args[0] = 0 }, []int64{6, 2}, true},
		"another exit":             {func(l []api.Inst, c *api.Code) { c.Funs[0].Blocks[0].Arg = 2 }, []int64{6, 2}, true},
		"another end":              {func(l []api.Inst, c *api.Code) { l[4].Op = api.Mul }, []int64{6, 0}, true},
		"a trap elsewhere":         {func(l []api.Inst, c *api.Code) { l[4].Site = 3 }, []int64{6, 0}, true},
		"a trap at another frame":  {func(l []api.Inst, c *api.Code) { c.Stops[2][0].Stmt++ }, []int64{6, 0}, true},
		"a mark elsewhere":         {func(l []api.Inst, c *api.Code) { l[2].Site = 2 }, []int64{6, 2}, true},
		"a mark less":              {func(l []api.Inst, c *api.Code) { l[6] = Show(0) }, []int64{6, 2}, true},
		"another number is shown":  {func(l []api.Inst, c *api.Code) { l[2].Dbg[0].B = 2 }, []int64{6, 2}, true},
		"another variable":         {func(l []api.Inst, c *api.Code) { l[2].Dbg[1].Var = 3 }, []int64{6, 2}, true},
		"a variable less":          {func(l []api.Inst, c *api.Code) { l[6].Dbg = l[6].Dbg[:1] }, []int64{6, 2}, true},
		"a print behind its mark":  {func(l []api.Inst, c *api.Code) { l[1], l[2] = l[2], l[1] }, []int64{6, 2}, true},
		"another stop's frames":    {func(l []api.Inst, c *api.Code) { c.Stops[1] = c.Stops[1][:1]; l[6].Dbg = l[6].Dbg[:1] }, []int64{6, 2}, true},
		"a trap at another's rest": {func(l []api.Inst, c *api.Code) { c.Stops[2] = append(c.Stops[2], api.Spot{Fn: 3}) }, []int64{6, 0}, false},
	} {
		c, d := sample(), sample()
		x.change(d.Funs[0].Blocks[0].Insts, &d)
		if code.Check(d) != api.OK {
			t.Fatal(name)
		}
		if _, s := alike.Runs(c, d, x.input, 99, true); (s != "") != x.differs {
			t.Errorf("%s: %q", name, s)
		}
	}
}

// TestFewerVariables: may be shown, where not all are asked for.
func TestFewerVariables(t *testing.T) {
	c, d := sample(), sample()
	d.Funs[0].Blocks[0].Insts[2].Dbg = d.Funs[0].Blocks[0].Insts[2].Dbg[1:]
	if end, s := alike.Runs(c, d, []int64{6, 2}, 99, false); s != "" || end != api.Halt {
		t.Error(s)
	}
	if _, s := alike.Runs(d, c, []int64{6, 2}, 99, false); s == "" {
		t.Error("more is shown, and nobody says so")
	}
}

// TestRunsThatAreNotHeld: what goes Wrong may end as it likes; what stops for want of fuel must begin alike.
func TestRunsThatAreNotHeld(t *testing.T) {
	c := Main(Ends(Number(0, 77), Inst(api.ILen, 1, 0), Show(1)))
	if end, s := alike.Runs(c, Main(Ends()), nil, 99, true); s != "" || end != api.Wrong {
		t.Error(s)
	}
	c = Main(Goes(1, Number(0, 77), Show(0)), Goes(1, Show(0)))
	if end, s := alike.Runs(c, c, nil, 20, true); s != "" || end != api.StopFuel {
		t.Error(s)
	}
	if _, s := alike.Runs(c, Main(Goes(1, Number(0, 77), Show(0), Number(1, 4)), Goes(1, Show(1))), nil, 20, true); s == "" {
		t.Error("it begins otherwise, and nobody says so")
	}
	if _, s := alike.Runs(api.Code{}, c, nil, 20, true); s == "" {
		t.Error("there is no run, and nobody says so")
	}
	if _, s := alike.Runs(c, api.Code{}, nil, 20, true); s == "" {
		t.Error("there is no run, and nobody says so")
	}
}

func TestEnough(t *testing.T) {
	if n := alike.Enough(sample(), 9); n != 10*(10+7+1) {
		t.Error(n)
	}
	if n := alike.Enough(sample(), api.MaxFuel); n != api.MaxFuel {
		t.Error(n)
	}
}

func TestCodeIsLikeItself(t *testing.T) {
	for seed := range uint64(300) {
		c := samples.Code(seed, 0, 0)
		if _, s := alike.Runs(c, c, samples.Bits(seed, 9), 200, true); s != "" {
			t.Error(seed, s)
		}
	}
}

// TestEntered: loops entered from one block that goes on to the head alone, from one that branches, and from two; one in another one; and ways round that are no loop.
func TestEntered(t *testing.T) {
	read := Read(0)
	for name, x := range map[string]struct {
		blocks []api.Block
		wrong  bool
	}{
		"no loop":               {[]api.Block{Branch(0, 1, 2, read), Goes(3), Goes(3), Ends()}, false},
		"from one":              {[]api.Block{Goes(1, read), Branch(0, 1, 2), Ends()}, false},
		"from one that chooses": {[]api.Block{Branch(0, 1, 2, read), Branch(0, 1, 2), Ends()}, true},
		"from two":              {[]api.Block{Branch(0, 1, 2, read), Goes(3), Goes(3), Branch(0, 3, 4), Ends()}, true},
		"the outer one, so":     {[]api.Block{Branch(0, 1, 5, read), Goes(2), Branch(0, 2, 3), Branch(0, 1, 4), Ends(), Ends()}, true},
		"the inner one, so":     {[]api.Block{Goes(1, read), Branch(0, 2, 4), Branch(0, 2, 3), Goes(1), Ends()}, true},
		"both right":            {[]api.Block{Goes(1, read), Goes(2), Branch(0, 2, 3), Branch(0, 1, 4), Ends()}, false},
		"entered in the middle": {[]api.Block{Branch(0, 1, 2, read), Goes(2), Branch(0, 1, 3), Ends()}, false},
	} {
		c := Main(x.blocks...)
		if !code.Plain(c) {
			t.Fatal(name)
		}
		if s := alike.Entered(c.Funs[0]); (s != "") != x.wrong {
			t.Errorf("%s: %q", name, s)
		}
	}
}
