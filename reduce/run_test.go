package reduce_test

import (
	"math"
	"reflect"
	"slices"
	"testing"

	"teasel/api"
	"teasel/code"
	. "teasel/parts"
	"teasel/reduce"
)

// TestExampleOfTheChapter: i = 0, 1, 2, ..; t = i * 12.
func TestExampleOfTheChapter(t *testing.T) {
	c := Main(
		Goes(1, Read(0), Number(1, 0), Number(2, 1)),
		Behind(Branch(4, 2, 3, Inst(api.Lt, 4, 3, 0)), Phi(3, 1, 7)),
		Goes(1, Number(5, 12), Inst(api.Mul, 6, 3, 5), Show(6), Inst(api.Add, 7, 3, 2), Show(7)),
		Ends(Show(3)))
	wantBlocks(t, c,
		Goes(1, Read(0), Number(1, 0), Number(2, 1), Number(10, 12)),
		Behind(Branch(4, 2, 3, Inst(api.Lt, 4, 3, 0)), Phi(3, 1, 7), Phi(8, 1, 9)),
		Goes(1, Number(5, 12), Show(8), Inst(api.Add, 7, 3, 2), Inst(api.Add, 9, 8, 10), Show(7)),
		Ends(Show(3)))
	holdEnd(t, c, api.Halt, nums(3), 0, 1, 12, 2, 24, 3, 3)
	holdEnd(t, c, api.Halt, nums(0), 0)
}

// turn is a loop that is gone through while ones are read. The values 0 and 1 are read, 2 and 3 are numbers, 4 is a phi of the head that begins with 0 and goes on with 5, which the instructions make.
func turn(two, three int64, insts ...api.Inst) api.Code {
	return Main(
		Goes(1, Read(0), Read(1), Number(2, two), Number(3, three)),
		Behind(Branch(9, 1, 2, append(insts, Read(9))...), Phi(4, 0, 5)),
		Ends(Show(4)))
}

// TestCounters: up and down, by a number on either side of an Add, and by a Sub of it.
func TestCounters(t *testing.T) {
	for _, step := range nums(1, 2, -1, 0, 7, math.MaxInt64, math.MinInt64, 1<<63-12) {
		for _, x := range []struct {
			op   byte
			a, b int
			sign int64
		}{{api.Add, 4, 2, 1}, {api.Add, 2, 4, 1}, {api.Sub, 4, 2, -1}} {
			for _, n := range nums(12, -1, 0, 1, math.MinInt64, math.MaxInt64) {
				c := turn(step, n, Inst(api.Mul, 6, 4, 3), Show(6), Inst(x.op, 5, x.a, x.b))
				sums := 1
				if n == 1 {
					sums = 0 // it is the counter itself
				}
				wantLeft(t, c, 1, 0, sums)
				for _, first := range nums(5, -3, math.MaxInt64) {
					s := step * x.sign
					holdEnd(t, c, api.Halt, nums(first, 0, 1, 1, 0), first*n, (first+s)*n, (first+2*s)*n, first+2*s)
				}
			}
		}
	}
}

// TestNoCounters: what is asked for isn't so of them; their products stay.
func TestNoCounters(t *testing.T) {
	product := []api.Inst{Inst(api.Mul, 6, 4, 3), Show(6)}
	for name, x := range map[string]struct {
		step []api.Inst
		want []int64
	}{
		"a Sub the other way round":       {[]api.Inst{Inst(api.Sub, 5, 2, 4)}, nums(60, -36, 60, 5)},
		"a step that is read":             {[]api.Inst{Inst(api.Add, 5, 4, 1)}, nums(60, 144, 228, 19)},
		"a step that is a copy":           {[]api.Inst{Inst(api.ICopy, 7, 2), Inst(api.Add, 5, 4, 7)}, nums(60, 84, 108, 9)},
		"a step that is itself":           {[]api.Inst{Inst(api.Add, 5, 4, 4)}, nums(60, 120, 240, 20)},
		"two steps":                       {[]api.Inst{Inst(api.Add, 7, 4, 2), Inst(api.Add, 5, 7, 2)}, nums(60, 108, 156, 13)},
		"a copy of the phi":               {[]api.Inst{Inst(api.ICopy, 7, 4), Inst(api.Add, 5, 7, 2)}, nums(60, 84, 108, 9)},
		"a step that isn't a sum":         {[]api.Inst{Inst(api.Xor, 5, 4, 2)}, nums(60, 84, 60, 5)},
		"a step that is the product":      {[]api.Inst{Inst(api.Add, 5, 4, 6)}, nums(60, 780, 10140, 845)},
		"its step, by way of the product": {[]api.Inst{Inst(api.Add, 5, 6, 2)}, nums(60, 744, 8952, 746)},
		"the product itself":              {[]api.Inst{Inst(api.ICopy, 5, 6)}, nums(60, 720, 8640, 720)},
		"a number":                        {[]api.Inst{Number(5, 8)}, nums(60, 96, 96, 8)},
	} {
		t.Run(name, func(t *testing.T) {
			c := turn(2, 12, append(slices.Clone(product), x.step...)...)
			wantLeft(t, c, 1, 1, 0)
			holdEnd(t, c, api.Halt, nums(5, 7, 1, 1, 0), x.want...)
		})
	}
}

// TestPhisThatAreNoCounters: of a head with three ways in, of another block of the loop, and behind it.
func TestPhisThatAreNoCounters(t *testing.T) {
	c := Main(
		Goes(1, Read(0), Number(1, 1), Number(2, 12)),
		Behind(Branch(5, 2, 3, Inst(api.Mul, 4, 3, 2), Show(4), Inst(api.Add, 6, 3, 1), Read(5)), Phi(3, 0, 6, 6)),
		Branch(7, 1, 4, Read(7)),
		Branch(8, 1, 4, Read(8)),
		Ends())
	wantLeft(t, c, 1, 1, 0)
	holdEnd(t, c, api.Halt, nums(5, 0, 1, 1, 1, 0, 0), 60, 72, 84)
	c = Main(
		Goes(1, Read(0), Number(1, 1), Number(2, 12)),
		Branch(3, 2, 3, Read(3)),
		Goes(4), Goes(4),
		Behind(Branch(7, 1, 5, Inst(api.Mul, 5, 4, 2), Show(5), Inst(api.Add, 6, 4, 1), Read(7)), Phi(4, 0, 1)),
		Ends())
	wantLeft(t, c, 4, 1, 0)
	holdEnd(t, c, api.Halt, nums(5, 0, 1, 1, 1, 0, 0), 12, 60, 12)
}

// TestSeveralWaysIn: from outside become one, so that a phi of the head counts.
func TestSeveralWaysIn(t *testing.T) {
	c := Main(
		Branch(0, 1, 2, Read(0), Read(1), Number(2, 1), Number(3, 12)),
		Goes(3), Goes(3),
		Behind(Branch(9, 3, 4, Inst(api.Mul, 6, 4, 3), Show(6), Inst(api.Add, 5, 4, 2), Read(9)), Phi(4, 0, 1, 5)),
		Ends())
	wantLeft(t, c, 3, 0, 2)
	holdEnd(t, c, api.Halt, nums(0, 5, 1, 1, 0), 60, 72, 84)
	holdEnd(t, c, api.Halt, nums(7, 5, 1, 0), 84, 96)
	// From a branch: a new block stands between.
	c = Main(
		Branch(0, 1, 2, Read(0), Number(2, 1), Number(3, 12)),
		Behind(Branch(9, 1, 2, Inst(api.Mul, 6, 4, 3), Show(6), Inst(api.Add, 5, 4, 2), Read(9)), Phi(4, 0, 5)),
		Ends())
	wantLeft(t, c, 1, 0, 1)
	holdEnd(t, c, api.Halt, nums(7, 1, 0), 84, 96)
	holdEnd(t, c, api.Halt, nums(0))
}

// TestProducts: by a number on either side, and shifts of a counter; other ones stay.
func TestProducts(t *testing.T) {
	step := Inst(api.Add, 5, 4, 2)
	for _, x := range []struct {
		product []api.Inst
		left    int
		want    []int64
	}{
		{[]api.Inst{Inst(api.Mul, 6, 4, 3)}, 0, nums(15, 21)},
		{[]api.Inst{Inst(api.Mul, 6, 3, 4)}, 0, nums(15, 21)},
		{[]api.Inst{Inst(api.Shl, 6, 4, 3)}, 0, nums(40, 56)},
		{[]api.Inst{Number(7, -9), Inst(api.Mul, 6, 4, 7)}, 0, nums(-45, -63)},
		{[]api.Inst{Inst(api.Shl, 6, 3, 4)}, 1, nums(3<<5, 3<<7)},
		{[]api.Inst{Inst(api.Mul, 6, 4, 4)}, 1, nums(25, 49)},
		{[]api.Inst{Inst(api.Shl, 6, 4, 4)}, 1, nums(5<<5, 7<<7)},
		{[]api.Inst{Inst(api.Mul, 6, 4, 1)}, 1, nums(40, 56)},
		{[]api.Inst{Inst(api.Mul, 6, 2, 3)}, 1, nums(6, 6)},
		{[]api.Inst{Inst(api.ICopy, 7, 3), Inst(api.Mul, 6, 4, 7)}, 1, nums(15, 21)},
		{[]api.Inst{Inst(api.Add, 7, 4, 2), Inst(api.Mul, 6, 7, 3)}, 1, nums(21, 27)},
	} {
		c := turn(2, 3, append(x.product, Show(6), step)...)
		wantLeft(t, c, 1, x.left, 1-x.left)
		holdEnd(t, c, api.Halt, nums(5, 8, 1, 0), append(x.want, 7)...)
	}
}

// TestShifts: as far as is left modulo 64.
func TestShifts(t *testing.T) {
	for _, k := range nums(0, 1, 2, 31, 62, 63, 64, 65, 127, 128, -1, -63, -64, -65, math.MinInt64, math.MaxInt64) {
		c := turn(-3, k, Inst(api.Shl, 6, 4, 3), Show(6), Inst(api.Add, 5, 4, 2))
		sums := 1
		if k%64 == 0 {
			sums = 0
		}
		wantLeft(t, c, 1, 0, sums)
		for _, first := range nums(1, -1, 5, math.MinInt64) {
			far := uint64(k) % 64
			holdEnd(t, c, api.Halt, nums(first, 0, 1, 1, 0), first<<far, (first-3)<<far, (first-6)<<far, first-6)
		}
	}
}

// TestPlaces: in the head, behind a condition, in an inner loop, and ahead of the step or behind it; behind the loop it stays.
func TestPlaces(t *testing.T) {
	c := Main(
		Goes(1, Read(0), Number(1, 1), Number(2, 12), Number(21, -5)),
		Behind(Branch(4, 2, 6, Inst(api.Mul, 10, 3, 2), Show(10), Read(4)), Phi(3, 0, 5)),
		Branch(6, 3, 4, Inst(api.Add, 5, 3, 1), Read(6)),
		Goes(4, Number(20, 7), Inst(api.Mul, 11, 20, 3), Show(11)),
		Branch(7, 4, 5, Inst(api.Mul, 12, 3, 21), Show(12), Read(7)),
		Goes(1, Inst(api.Mul, 13, 3, 2), Show(13), Inst(api.Shl, 14, 3, 1), Show(14)),
		Ends(Inst(api.Mul, 15, 3, 2), Show(15), Inst(api.Shl, 16, 3, 1), Show(16)))
	for i := 1; i < 6; i++ {
		wantLeft(t, c, i, 0, 4)
	}
	wantLeft(t, c, 6, 2, 4)
	holdEnd(t, c, api.Halt, nums(6, 1, 1, 1, 0, 1, 0, 0, 0), 72, 42, -30, -30, 72, 12, 84, -35, 84, 14, 96, 96, 16)
}

// TestOneSumForAll: products by one number are one, of the counter and of its other products.
func TestOneSumForAll(t *testing.T) {
	c := turn(1, 4,
		Inst(api.Mul, 6, 4, 3), Number(7, 2), Inst(api.Shl, 8, 4, 7), Inst(api.Mul, 10, 7, 4), Inst(api.Mul, 11, 10, 7), Inst(api.Mul, 12, 6, 3), Inst(api.Shl, 13, 6, 7), Inst(api.Mul, 14, 12, 2),
		Show(6), Show(8), Show(10), Show(11), Show(12), Show(13), Show(14), Inst(api.Add, 5, 4, 2))
	wantLeft(t, c, 1, 0, 3)
	holdEnd(t, c, api.Halt, nums(3, 0, 1, 0), 12, 12, 6, 12, 48, 48, 48, 16, 16, 8, 16, 64, 64, 64, 4)
}

// TestSeveralCounters: of one loop, each with its products.
func TestSeveralCounters(t *testing.T) {
	c := Main(
		Goes(1, Read(0), Number(1, 1), Number(2, 12), Number(3, -5)),
		Behind(Branch(9, 1, 2,
			Inst(api.Mul, 20, 4, 2), Inst(api.Mul, 21, 5, 2), Inst(api.Shl, 22, 6, 1), Inst(api.Mul, 23, 2, 7), Show(20), Show(21), Show(22), Show(23),
			Inst(api.Add, 14, 4, 1), Inst(api.Sub, 15, 5, 3), Inst(api.Add, 16, 2, 6), Read(9)), Phi(4, 0, 14), Phi(5, 0, 15), Phi(6, 3, 16), Phi(7, 1, 4)),
		Ends())
	wantLeft(t, c, 1, 1, 3)
	holdEnd(t, c, api.Halt, nums(10, 1, 1, 0), 120, 120, -10, 12, 132, 180, 14, 120, 144, 240, 38, 132)
}

// TestCountersOfOuterLoops: products of an outer counter in an inner loop, and inner counters that begin with an outer one, or with its product.
func TestCountersOfOuterLoops(t *testing.T) {
	c := Main(
		Goes(1, Read(0), Number(1, 1), Number(2, 10)),
		Behind(Goes(2, Inst(api.Mul, 20, 3, 2)), Phi(3, 0, 7)),
		Behind(Branch(8, 2, 3, Inst(api.Mul, 21, 4, 2), Inst(api.Mul, 22, 2, 5), Inst(api.Shl, 23, 3, 1), Show(21), Show(22), Show(23), Inst(api.Add, 24, 4, 1), Inst(api.Add, 25, 5, 2), Read(8)), Phi(4, 3, 24), Phi(5, 20, 25)),
		Branch(9, 1, 4, Inst(api.Add, 7, 3, 1), Read(9)),
		Ends())
	for i := 1; i < 4; i++ {
		// Of 3: by 10, by 2 and, for 5 times 10, by 100; of 4 and 5: by 10.
		wantLeft(t, c, i, 0, 5)
	}
	holdEnd(t, c, api.Halt, nums(3, 1, 0, 1, 0, 0), 30, 300, 6, 40, 400, 6, 40, 400, 8)
}

// TestProductsAheadOfLoops: a counter that begins with something that is no number needs a product ahead; one that begins with a number needs none.
func TestProductsAheadOfLoops(t *testing.T) {
	c := turn(1, 12, Inst(api.Mul, 6, 4, 3), Show(6), Inst(api.Add, 5, 4, 2))
	wantLeft(t, c, 0, 1, 1)
	c.Funs[0].Blocks[0].Insts[0] = Number(0, 5)
	wantLeft(t, c, 0, 0, 1)
	holdEnd(t, c, api.Halt, nums(0, 1, 0), 60, 72, 6)
}

// TestUses: of a product: by a phi of the head, of another block, by a branch, a call, an answer, a store, and by other counters.
func TestUses(t *testing.T) {
	c := Program(
		Fun(0,
			Goes(1, Read(0), Number(1, 1), Number(2, 12), api.Inst{Op: api.IAlloc, Dst: 30, Imm: 256}),
			Behind(Branch(6, 2, 3, Inst(api.Mul, 6, 3, 2), Call(20, 1, 6, 3), Inst(api.Add, 7, 3, 1), Inst(api.Add, 15, 5, 6)), Phi(3, 0, 7), Phi(4, 1, 6), Phi(5, 0, 15)),
			Goes(4, Inst(api.IStore, -1, 30, 6, 3)),
			Goes(4, Show(4)),
			Behind(Branch(9, 1, 5, Show(8), Show(4), Show(5), Show(20), Read(9)), Phi(8, 6, 4)),
			Answers(6, Inst(api.ILoad, 21, 30, 6), Show(21))),
		Fun(2, Answers(2, Param(0, 0), Param(1, 1), Inst(api.Sub, 2, 0, 1))))
	wantLeft(t, c, 1, 0, 1)
	holdEnd(t, c, api.Halt, nums(0, 1, 0), 1, 1, 1, 0, 0, 12, 0, 0, 11, 1)
}

// TestLoopsThatShareABlock: in which both end.
func TestLoopsThatShareABlock(t *testing.T) {
	c := Main(
		Goes(1, Read(0), Number(1, 1), Number(2, 12)),
		Behind(Goes(2, Inst(api.Add, 5, 3, 1)), Phi(3, 0, 5)),
		Behind(Branch(7, 3, 4, Inst(api.Add, 6, 4, 2), Inst(api.Mul, 10, 4, 2), Inst(api.Mul, 11, 3, 2), Show(10), Show(11), Read(7)), Phi(4, 3, 6)),
		Branch(8, 1, 2, Read(8)),
		Ends())
	for i := 1; i < 5; i++ {
		wantLeft(t, c, i, 0, 2)
	}
	holdEnd(t, c, api.Halt, nums(1, 1, 0, 1, 1, 0), 12, 12, 156, 12, 24, 24)
}

// TestRunsThatDoNotHalt: each trap, behind some turns, and runs that don't end.
func TestRunsThatDoNotHalt(t *testing.T) {
	counted := []api.Inst{Inst(api.Mul, 6, 4, 3), Show(6), Inst(api.Add, 5, 4, 2)}
	array := api.Inst{Op: api.IAlloc, Dst: 7, Imm: 40}
	for _, x := range []struct {
		insts []api.Inst
		end   byte
		want  []int64
	}{
		{[]api.Inst{At(2, Inst(api.Div, 8, 3, 6))}, api.TrapZero, nums(-24, -12, 0)},
		{[]api.Inst{At(3, Inst(api.Rem, 8, 3, 6))}, api.TrapZero, nums(-24, -12, 0)},
		{[]api.Inst{Inst(api.Neg, 10, 6), array, At(2, Inst(api.ILoad, 8, 7, 10))}, api.TrapCell, nums(-24, -12, 0, 12)},
		{nil, api.TrapIn, nums(-24, -12, 0, 12, 24)},
	} {
		c := turn(1, 12, append(slices.Clone(counted), x.insts...)...)
		wantLeft(t, c, 1, 0, 1)
		holdEnd(t, c, x.end, nums(-2, 0, 1, 1, 1, 1), x.want...)
	}
	c := Main(Goes(1, Number(0, 0), Number(1, 1), Number(2, 3)), Behind(Goes(1, Inst(api.Mul, 4, 3, 2), Show(4), Mark(IsValue(0, 4, 1, 0)), Inst(api.Add, 5, 3, 1)), Phi(3, 0, 5)))
	wantLeft(t, c, 1, 0, 1)
	if end := hold(t, c, nil, 100); end != api.StopFuel {
		t.Error(end)
	}
}

// TestNothingToDo: code without loops, without counters, and without products of them.
func TestNothingToDo(t *testing.T) {
	for _, c := range []api.Code{
		Main(Ends()),
		Main(Answers(2, Read(0), Number(1, 12), Inst(api.Mul, 2, 0, 1))),
		turn(1, 12, Inst(api.Add, 5, 4, 2), Inst(api.Mul, 6, 0, 3)),
	} {
		if d := mustRun(t, c); !reflect.DeepEqual(d, c) {
			t.Errorf("%+v, want\n%+v", d, c)
		}
	}
}

// TestASecondRun: finds nothing more.
func TestASecondRun(t *testing.T) {
	c := turn(1, 12, Inst(api.Mul, 6, 4, 3), Inst(api.Mul, 7, 6, 3), Show(7), Inst(api.Add, 5, 4, 2))
	d := mustRun(t, c)
	if again := mustRun(t, d); !reflect.DeepEqual(again, d) {
		t.Errorf("%+v, want\n%+v", again, d)
	}
}

// TestWhatIsNotLookedAt: isn't kept.
func TestWhatIsNotLookedAt(t *testing.T) {
	c := Main(Goes(1, Read(0)), Branch(1, 1, 2, Read(1)), Ends())
	want := code.Copy(c)
	l := c.Funs[0].Blocks
	l[0].Else, l[0].Arg, l[2].To, l[2].Else, l[2].Arg, c.Funs[0].Vars = 1, 99, 1, -4, 7, 3
	l[0].Insts[0].Dbg = []api.Dbg{{Kind: 77}}
	if d, e := reduce.Run(c); e != api.OK || !reflect.DeepEqual(d, want) {
		t.Errorf("%d: %+v, want\n%+v", e, d, want)
	}
}
