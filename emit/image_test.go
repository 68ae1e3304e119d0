package emit_test

import (
	"testing"

	"teasel/api"
	. "teasel/parts"
)

// nums is a list of numbers.
func nums(l ...int64) []int64 { return l }

// wantEnd holds the runs of code's images, with all and without, and how they end.
func wantEnd(t *testing.T, name string, c api.Code, input []int64, want byte) {
	t.Helper()
	for _, all := range []bool{false, true} {
		if end := newHolder(t, c, all).holdRun(t, input, 20000); end != want {
			t.Errorf("%s: the end %d, not %d", name, end, want)
		}
	}
}

// padded answers instructions between so many reads and prints of what is read, so that what they make must stand in slots.
func padded(n, vals int, l []api.Inst) ([]api.Inst, int) {
	var made, used []api.Inst
	for v := range n {
		made = append(made, Read(vals+v))
		used = append(used, Show(vals+v))
	}
	return append(append(made, l...), used...), vals + n
}

// TestEachInstruction: where it traps, and where it doesn't, with what it names in registers, and in slots.
func TestEachInstruction(t *testing.T) {
	t.Parallel()
	array := []api.Inst{{Op: api.IAlloc, Dst: 2, Imm: 3}, Number(3, 2), Inst(api.IStore, -1, 2, 3, 0)}
	for _, x := range []struct {
		name  string
		insts []api.Inst
		input []int64
		want  byte
	}{
		{"const", []api.Inst{Number(2, -1<<63), Number(3, 1<<63-1), Show(2), Show(3)}, nums(1, 2), api.Halt},
		{"copy", []api.Inst{Inst(api.ICopy, 2, 0), Inst(api.ICopy, 3, 2), Show(3), Show(0), Inst(api.ICopy, 4, 1), Show(4)}, nums(1, 2), api.Halt},
		{"alloc, load, store, len", append(array[:3:3], Inst(api.ILoad, 4, 2, 3), Show(4), Inst(api.ILen, 5, 2), Show(5)), nums(7, 8), api.Halt},
		{"a load behind the last cell", append(array[:3:3], At(3, Inst(api.ILoad, 4, 2, 0)), Show(4)), nums(3, 1), api.TrapCell},
		{"a load below the first one", append(array[:3:3], At(2, Inst(api.ILoad, 4, 2, 0)), Show(4)), nums(-1, 1), api.TrapCell},
		{"a store behind the last cell", append(array[:1:1], At(5, Inst(api.IStore, -1, 2, 0, 1))), nums(3, 1), api.TrapCell},
		{"a store below the first one", append(array[:1:1], At(5, Inst(api.IStore, -1, 2, 0, 0))), nums(-1<<63, 1), api.TrapCell},
		{"a store of the array and its place", append(array[:3:3], Number(4, 0), Inst(api.IStore, -1, 2, 4, 2), Inst(api.ILoad, 5, 2, 4), Show(5)), nums(1, 1), api.Halt},
		{"top and free", append(array[:3:3], Inst(api.ITop, 4), Show(4), Number(5, 0), Inst(api.IFree, -1, 5), Inst(api.ITop, 6), Show(6)), nums(1, 1), api.Halt},
		{"cells that were freed are new", append(array[:3:3], Number(5, 0), Inst(api.IFree, -1, 5), api.Inst{Op: api.IAlloc, Dst: 6, Imm: 4}, Inst(api.ILoad, 7, 6, 3), Show(7), Show(6)), nums(9, 1), api.Halt},
		{"read and print", []api.Inst{At(4, Read(2)), Show(2), At(6, Read(3))}, nums(1, 2), api.TrapIn},
		{"the greatest array", []api.Inst{{Op: api.IAlloc, Dst: 2, Imm: api.MaxCells}, Inst(api.ILen, 3, 2), Show(3)}, nums(1, 2), api.Halt},
	} {
		l := append([]api.Inst{Read(0), Read(1)}, x.insts...)
		for _, n := range []int{0, 9, 10, 11, 12, 13, 16, 30} {
			insts, vals := padded(n, 20, l)
			c := Program(Fun(0, Answers(0, append(insts, Mark(IsValue(0, 0, 3, 1), IsValue(1, 1, -1, 0)))...)))
			c.Funs[0].Vals = vals
			var input []int64
			for i := range n {
				input = append(input, int64(100+i))
			}
			wantEnd(t, x.name, c, append(input, x.input...), x.want)
		}
	}
}

// TestEachOperation: of one and of two numbers, in registers and in slots, of one and the same, too.
func TestEachOperation(t *testing.T) {
	t.Parallel()
	for op := byte(api.Add); op <= api.Bang; op++ {
		if op == api.LAnd || op == api.LOr {
			continue
		}
		for _, pair := range [][2]int64{{7, 3}, {-7, 3}, {1 << 62, 5}, {-1 << 63, -1}, {5, 0}, {0, 0}, {-1, 64}, {3, 3}} {
			of := []int{0, 1}
			if op >= api.Neg {
				of = of[:1]
			}
			l := []api.Inst{Read(0), Read(1), At(3, Inst(op, 2, of...)), Show(2), Show(0), Show(1), At(5, Inst(op, 3, []int{0, 0}[:len(of)]...)), Show(3)}
			want := byte(api.Halt)
			if op == api.Div || op == api.Rem {
				if pair[0] == 0 || pair[1] == 0 {
					want = api.TrapZero
				}
			}
			for _, n := range []int{0, 11, 12, 20} {
				insts, vals := padded(n, 20, l)
				c := Program(Fun(0, Answers(3, insts...)))
				c.Funs[0].Vals = vals
				wantEnd(t, "an operation", c, append(make([]int64, n), pair[:]...), want)
			}
		}
	}
}

// TestParameters: none, and as many as there may be, in any order, asked for twice or not at all, for functions that answer and such that don't.
func TestParameters(t *testing.T) {
	t.Parallel()
	for n := range api.MaxParams + 1 {
		var l []api.Inst
		sum := 20
		l = append(l, Number(20, 0))
		for k := range n {
			p := n - 1 - k
			l = append(l, Param(k, p), Number(30+k, int64(k+2)), Inst(api.Mul, 10+k, k, 30+k), Inst(api.Add, 21+k, sum, 10+k), Mark(IsValue(k, k, 1, 0)))
			sum = 21 + k
		}
		if n > 0 {
			l = append(l, Param(40, 0), Show(40))
		}
		args := []int{}
		made := []api.Inst{}
		for k := range n {
			made = append(made, Read(k))
			args = append(args, k)
		}
		c := Program(
			Fun(0, Answers(10, append(made, At(2, Call(10, 1, args...)), Show(10), At(3, Call(-1, 2, args...)), At(4, Call(11, 2, args...)), Show(11))...)),
			Fun(n, Answers(sum, l...)),
			Fun(n, Ends(Mark())))
		wantEnd(t, "a function", c, nums(5, -1, 7, 1<<40, 0, 3), api.Halt)
	}
}

// deep is a function that calls itself so often as is read, and answers how often.
func deep() api.Code {
	return Program(
		Fun(0, Answers(1, Mark(), Read(0), At(1, Call(1, 1, 0)), Show(1))),
		Fun(1,
			Branch(0, 1, 2, Param(0, 0), Mark(IsValue(0, 0, 1, 0))),
			Answers(4, Number(1, 1), Inst(api.Sub, 2, 0, 1), At(3, Call(3, 1, 2), IsValue(0, 0, 2, 0), Deeper(1, IsValue(1, 2, 1, 5))), Inst(api.Add, 4, 3, 1)),
			Ends()))
}

// TestCallsOfCalls: as many as may be open, and one more.
func TestCallsOfCalls(t *testing.T) {
	t.Parallel()
	c := deep()
	for _, n := range []int64{0, 1, 5, 97, 98} {
		wantEnd(t, "calls of calls", c, nums(n), api.Halt)
	}
	for _, all := range []bool{false, true} {
		s := runImage(t, mustImage(t, c, all), nums(99))
		if s.End != api.StopCall || s.Marks != 100 {
			t.Error(s)
		}
	}
}

// TestArrays: of functions that free what they use, and the heap's end.
func TestArrays(t *testing.T) {
	t.Parallel()
	row := func(again int64) api.Code {
		return Program(
			Fun(0,
				Goes(1, Read(0), Number(1, 0), Number(2, 1)),
				Behind(Branch(4, 2, 3, Inst(api.Lt, 4, 3, 0), At(1, Mark(IsValue(0, 3, 1, 0)))), Phi(3, 1, 5)),
				Goes(1, At(3, Call(6, 1, 3)), Show(6), Inst(api.Add, 5, 3, 2)),
				Answers(3, Inst(api.ITop, 7), Show(7))),
			Fun(1, Answers(4, Param(0, 0), Inst(api.ITop, 1), api.Inst{Op: api.IAlloc, Dst: 2, Imm: 256}, Number(3, 7), Inst(api.IStore, -1, 2, 3, 0), Inst(api.ILoad, 4, 2, 3), Number(5, again), Inst(api.Mul, 6, 1, 5), Inst(api.IFree, -1, 6))))
	}
	wantEnd(t, "freed", row(1), nums(40), api.Halt)
	kept := row(1)
	kept.Funs[1].Blocks[0].Insts[7] = Inst(api.ITop, 6)
	wantEnd(t, "kept", kept, nums(15), api.Halt)
	wantEnd(t, "the heap's end", kept, nums(16), api.StopHeap)
}

// TestPhisThatTurn: in circles of all lengths, in registers and in slots, and those that take what others have.
func TestPhisThatTurn(t *testing.T) {
	t.Parallel()
	for _, n := range []int{2, 3, 5, 12, 13, 14, 15, 20, 40} {
		for _, step := range []int{1, 2, n - 1} {
			head := Behind(Branch(2*n, 1, 2, Read(2*n), Mark()), nil...)
			first := Goes(1)
			last := Ends()
			for i := range n {
				first.Insts = append(first.Insts, Read(i))
				head.Phis = append(head.Phis, Phi(n+i, i, n+(i+step)%n))
				head.Insts[1].Dbg = append(head.Insts[1].Dbg, IsValue(i, n+i, 1, int64(i)))
				last.Insts = append(last.Insts, Show(n+i))
			}
			c := Main(first, head, last)
			c.Funs[0].Vals = 2*n + 1
			input := []int64{}
			for i := range n {
				input = append(input, int64(i*i))
			}
			wantEnd(t, "a circle", c, append(input, 1, 1, 1, 0), api.Halt)
		}
	}
	// Two phis that take one value, one that takes itself, and numbers.
	c := Main(
		Goes(1, Read(0), Number(1, 5)),
		Behind(Branch(9, 1, 2, Read(9), Mark(IsValue(0, 2, 1, 0), IsValue(1, 3, 1, 0), IsValue(2, 4, 1, 0), IsValue(3, 5, 1, 0), IsValue(4, 6, 1, 0))),
			Phi(2, 0, 3), Phi(3, 1, 2), Phi(4, 0, 4), Phi(5, 1, 3), Phi(6, 0, 1)),
		Ends(Show(2), Show(3), Show(4), Show(5), Show(6)))
	wantEnd(t, "phis", c, nums(8, 1, 1, 1, 0), api.Halt)
}

// TestBranches: both ways of which come to one block at once, or by blocks in which nothing is done; by numbers that are known, that are read, and that a phi takes.
func TestBranches(t *testing.T) {
	t.Parallel()
	for _, n := range []int64{0, 1, -1, 1 << 40} {
		wantEnd(t, "to one in the end", Main(Branch(0, 1, 2, Read(0), Mark()), Goes(3), Goes(3), Ends(Show(0))), nums(n), api.Halt)
		wantEnd(t, "to one with phis", Main(Branch(0, 1, 2, Read(0), Number(1, 7), Mark()), Goes(3), Goes(3), Behind(Answers(2, Show(2)), Phi(2, 0, 1))), nums(n), api.Halt)
		wantEnd(t, "past one", Main(Branch(0, 1, 2, Read(0), Number(1, 7)), Goes(2, Show(0)), Behind(Answers(2, Show(2)), Phi(2, 0, 1))), nums(n), api.Halt)
		wantEnd(t, "past one, the other way", Main(Branch(0, 2, 1, Read(0), Number(1, 7)), Goes(2), Behind(Answers(2, Show(2)), Phi(2, 0, 1))), nums(n), api.Halt)
		wantEnd(t, "back", Main(Goes(1, Number(5, 3)), Behind(Branch(0, 1, 2, Read(0), Show(1)), Phi(1, 5, 0)), Answers(1)), nums(4, 3, n, 0), api.Halt)
		wantEnd(t, "to phis of one way", Main(Branch(0, 1, 2, Read(0), Read(1)), Behind(Answers(2, Show(2)), Phi(2, 1)), Behind(Answers(4, Show(3)), Phi(3, 0), Phi(4, 0))), nums(n, 5), api.Halt)
	}
	wantEnd(t, "by a number", Main(Branch(0, 1, 2, Number(0, 0)), Ends(Show(0)), Ends()), nil, api.Halt)
	c := Main(Branch(0, 1, 1, Read(0)), Ends())
	wantErrForm(t, "both ways to one block", c)
}

// TestRoundsInWhichNothingIsDone: a run that never ends, as the code's.
func TestRoundsInWhichNothingIsDone(t *testing.T) {
	t.Parallel()
	for _, c := range []api.Code{
		Main(Goes(1), Goes(1)),
		Main(Goes(2), Goes(2), Goes(1)),
		Main(Branch(0, 1, 2, Read(0), Mark(IsValue(0, 0, 1, 0))), Goes(3), Ends(Show(0)), Goes(1)),
	} {
		wantEnd(t, "a round", c, nums(1), api.StopFuel)
		for _, all := range []bool{false, true} {
			if s := runImage(t, mustImage(t, c, all), nums(1)); s.End != 0 {
				t.Error(s)
			}
		}
	}
}

// TestEnds: of Main and of functions, with an answer and without, of numbers and of values in slots.
func TestEnds(t *testing.T) {
	t.Parallel()
	for _, n := range []int{0, 12, 13, 30} {
		insts, vals := padded(n, 20, []api.Inst{Read(0), Number(1, -5)})
		for _, b := range []api.Block{Answers(0, insts...), Answers(1, insts...), Ends(insts...)} {
			c := Program(Fun(0, Answers(2, Call(2, 1), Call(3, 1), Show(3))), Fun(0, b))
			c.Funs[1].Vals = vals
			wantEnd(t, "an end", c, make([]int64, 2*n+2), api.Halt)
			c = Program(Fun(0, b))
			c.Funs[0].Vals = vals
			wantEnd(t, "Main's end", c, append(make([]int64, n), 9), api.Halt)
		}
	}
	// Main isn't the first one.
	c := Program(Fun(1, Answers(0, Param(0, 0))), Fun(0, Answers(1, Number(0, 6), Call(1, 0, 0))))
	c.Main = 1
	wantEnd(t, "Main behind", c, nil, api.Halt)
}
