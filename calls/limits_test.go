package calls_test

import (
	"testing"

	"teasel/api"
	"teasel/code"
	. "teasel/parts"
)

// filled answers a function of one parameter, which it prints, with so many instructions and phis, in so many blocks.
func filled(insts, blocks int) api.Fun {
	f := Fun(1)
	for i := range blocks {
		f.Blocks = append(f.Blocks, Goes(i+1))
	}
	f.Blocks[blocks-1] = Answers(0)
	f.Blocks[0].Insts = []api.Inst{Param(0, 0), Show(0)}
	for v := 2; v < insts; v++ {
		b := &f.Blocks[(v-2)%blocks]
		if v%2 == 0 && (v-2)%blocks > 0 {
			b.Phis = append(b.Phis, Phi(v, 0))
		} else {
			b.Insts = append(b.Insts, Number(v, int64(v)))
		}
	}
	return f
}

// TestSmallFunctions: of up to 16 instructions and phis in up to 8 blocks; greater ones may be called still.
func TestSmallFunctions(t *testing.T) {
	for _, insts := range []int{2, 15, 16, 17, 18, 40} {
		for _, blocks := range []int{1, 2, 7, 8, 9, 12} {
			c := Program(Fun(0, Ends(Read(0), Call(1, 1, 0), Call(2, 1, 1), Show(2))), filled(insts, blocks))
			if n := size(c.Funs[1]); n != insts {
				t.Fatal(n, insts)
			}
			holdEnd(t, c, api.Halt, nums(6), 6, 6, 6)
			if n := len(called(mustRun(t, c).Funs[0])); n > 0 && insts <= 16 && blocks <= 8 {
				t.Error(insts, blocks)
			}
		}
	}
}

// TestFunctionsWithoutAnswers: that never end stay calls, as nothing could stand behind them; those of which some ways don't end are done in place.
func TestFunctionsWithoutAnswers(t *testing.T) {
	never := Fun(1, Goes(1, Param(0, 0)), Goes(1, Show(0)))
	some := Fun(1, Branch(0, 1, 2, Param(0, 0)), Goes(1, Show(0)), Ends())
	c := Program(Fun(0, Ends(Read(0), Call(1, 1, 0), Show(1))), never)
	if end := hold(t, c, nums(3), 50); end != api.StopFuel {
		t.Error(end)
	}
	c.Funs[1] = some
	wantCalls(t, c, 0, 0)
	holdEnd(t, c, api.Halt, nums(0), 0)
	if end := hold(t, c, nums(3), 50); end != api.StopFuel {
		t.Error(end)
	}
}

// TestFunctionsThatCall: with up to 200 instructions, phis and blocks they call no small one.
func TestFunctionsThatCall(t *testing.T) {
	for _, n := range []int{10, 199, 200, 201, 300} {
		for _, blocks := range []int{1, 2, 90} {
			if n < blocks {
				continue
			}
			f := filled(n-blocks, blocks)
			last := &f.Blocks[blocks-1]
			last.Insts[len(last.Insts)-1] = Call(700, 1, 0)
			f.Vals = 800
			c := Program(Fun(0, Ends(Read(0), Call(1, 2, 0), Show(1))), filled(10, 3), f)
			if k := size(f) + len(f.Blocks); k != n {
				t.Fatal(k, n)
			}
			holdEnd(t, c, api.Halt, nums(4), 4, 4, 4)
			if k := called(mustRun(t, c).Funs[2])[1]; k > 0 && n <= 200 {
				t.Error(n, blocks)
			}
		}
	}
}

// TestManyFunctions: up to 20.
func TestManyFunctions(t *testing.T) {
	for _, n := range []int{2, 19, 20, 21, 60} {
		c := Program(Fun(0, Ends(Read(0), Call(1, n-1, 0), Show(1))))
		for len(c.Funs) < n {
			c.Funs = append(c.Funs, filled(3, 1))
		}
		holdEnd(t, c, api.Halt, nums(4), 4, 4)
		if len(called(mustRun(t, c).Funs[0])) > 0 && n <= 20 {
			t.Error(n)
		}
	}
}

// TestMuchCode: up to 1,000 instructions and phis in all, and much more.
func TestMuchCode(t *testing.T) {
	for _, n := range []int{999, 1000, 1001, 5000, api.MaxCode} {
		c := Program(Fun(0, Ends(Read(0), Call(1, 1, 0), Show(1))), filled(9, 2))
		big := filled(n-12, 5)
		big.Vals = api.MaxVals
		c.Funs = append(c.Funs, big)
		if code.Size(c) != n {
			t.Fatal(code.Size(c), n)
		}
		d := mustRun(t, c)
		holdRuns(t, c, d, nums(4), 99)
		if len(called(d.Funs[0])) > 0 && n <= 1000 {
			t.Error(n)
		}
	}
}

// TestAsMuchAsThereMayBecome: code of nearly nothing but calls, each of which is done in place.
func TestAsMuchAsThereMayBecome(t *testing.T) {
	c := Program()
	for range 19 {
		var l []api.Inst
		for k := range 51 {
			l = append(l, At(k%8, Call(k, 19)))
		}
		c.Funs = append(c.Funs, Fun(0, Ends(l...)))
		c.Funs[len(c.Funs)-1].Vals = 51
	}
	small := Fun(0, Branch(0, 1, 2, Read(0), Number(1, 3)), Answers(1), Goes(3, Mark(), Mark()), Branch(0, 4, 5), Ends(), Goes(6), Goes(7, Number(2, 4), Number(3, 5), Number(4, 6)), Ends(Number(5, 1), Show(5), Show(5), Show(5), Show(5), Show(5), Show(5)))
	c.Funs = append(c.Funs, small)
	if size(small) > 16 || code.Size(c) > 1000 {
		t.Fatal(size(small), code.Size(c))
	}
	d := mustRun(t, c)
	for way := range int64(4) {
		input := make([]int64, 60)
		for k := range input {
			input[k] = int64(k) % (way + 1)
		}
		holdRuns(t, c, d, input, 999)
	}
	holdRuns(t, c, d, nums(1, 0), 999)
	for i := range 19 {
		if n := len(called(d.Funs[i])); n > 0 {
			t.Error(i, n)
		}
	}
}

// TestValuesThatAreFree: new ones take the numbers that are free, also where the highest one is taken.
func TestValuesThatAreFree(t *testing.T) {
	const top = api.MaxVals - 1
	main := Fun(0, Ends(Read(top), Call(top-1, 1, top), Call(2, 1, top-1), Call(top-2, 1, 2), Show(top-2), Show(top)))
	main.Vals = api.MaxVals
	small := Fun(1, Branch(top, 1, 2, Param(top, 0), Number(7, 1)), Answers(50, Inst(api.Add, 50, top, 7)), Ends())
	small.Vals = api.MaxVals
	c := Program(main, small)
	wantCalls(t, c, 0, 0)
	holdEnd(t, c, api.Halt, nums(4), 7, 4)
	holdEnd(t, c, api.Halt, nums(0), 0, 0)
	holdEnd(t, c, api.Halt, nums(-1), 0, -1)
	// No values at all, ahead of it.
	c = Program(Fun(0, Ends(Call(-1, 1))), Fun(0, Ends(Number(0, 4), Number(2, 5), Show(2))))
	c.Funs[0].Vals = 0
	wantCalls(t, c, 0, 0)
	holdEnd(t, c, api.Halt, nil, 5)
}

// TestMostBlocks: as many as there may be.
func TestMostBlocks(t *testing.T) {
	blocks := make([]api.Block, api.MaxVals)
	for i := range blocks {
		blocks[i] = Goes(i + 1)
		if i%2 == 0 && i < 2*900 {
			blocks[i].Insts = []api.Inst{Call(-1, 1)}
		}
	}
	blocks[api.MaxVals-1] = Ends()
	c := Program(Fun(0, blocks...), Fun(0, Ends(Number(0, 4), Show(0))))
	holdRuns(t, c, mustRun(t, c), nil, 70000)
}
