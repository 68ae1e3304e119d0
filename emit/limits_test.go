package emit_test

import (
	"testing"

	"teasel/api"
	"teasel/code"
	"teasel/emit"
	. "teasel/parts"
	"teasel/samples"
	"teasel/trace"
	"teasel/vm"
)

// size answers how many instructions, phis and blocks code has.
func size(c api.Code) int {
	n := code.Size(c)
	for _, f := range c.Funs {
		n += len(f.Blocks)
	}
	return n
}

// wantSmall holds that code is no greater than what is never refused.
func wantSmall(t *testing.T, c api.Code) {
	t.Helper()
	if n := size(c); n > 2000 || !code.Plain(c) {
		t.Fatal(n, code.Check(c))
	}
	for _, f := range c.Funs {
		if f.Vals > 2000 {
			t.Fatal(f.Vals)
		}
	}
}

// TestManyValuesAtOnce: 1,999 that a mark knows, 999 that are printed, and what makes each from others.
func TestManyValuesAtOnce(t *testing.T) {
	t.Parallel()
	var made, used, rest []api.Inst
	mark := Mark()
	for v := range 1998 {
		made = append(made, Read(v))
		mark.Dbg = append(mark.Dbg, IsValue(v, v, int64(v), 1))
	}
	known := Main(Ends(append(made, mark)...))
	for v := range 999 {
		used = append(used, Show(998-v))
	}
	printed := Main(Ends(append(made[:999:999], used...)...))
	for v := range 1000 {
		if v%2 > 0 {
			rest = append(rest, At(3, Inst(api.IStore, -1, v%998, (v+331)%998, (v+662)%998)))
		} else {
			rest = append(rest, Show(v%998))
		}
	}
	stored := Main(Ends(append(made[:998:998], rest...)...))
	stored.Funs[0].Blocks[0].Insts[997] = api.Inst{Op: api.IAlloc, Dst: 997, Imm: 5}
	for _, c := range []api.Code{known, printed, stored} {
		c.Funs[0].Vals = 2000
		wantSmall(t, c)
		input := samples.Bits(5, 2000)
		for _, all := range []bool{false, true} {
			newHolder(t, c, all).holdRun(t, input, 9000)
		}
	}
}

// TestManyCalls: 1,900 of six arguments each, all in slots.
func TestManyCalls(t *testing.T) {
	t.Parallel()
	var l []api.Inst
	for v := range 40 {
		l = append(l, Read(v))
	}
	for k := range 1900 {
		args := []int{}
		for i := range api.MaxParams {
			args = append(args, (k+7*i)%40)
		}
		l = append(l, At(2, Call(40+k, 1, args...), IsValue(0, k%40, 1, 0)))
	}
	for k := range 50 {
		l = append(l, Show(40+k*38))
	}
	c := Program(Fun(0, Ends(l...)), Fun(6, Answers(2, Param(0, 0), Param(1, 5), Inst(api.Sub, 2, 0, 1))))
	c.Funs[0].Vals = 2000
	wantSmall(t, c)
	wantEnd(t, "calls", c, samples.Bits(9, 40), api.Halt)
}

// dice answers numbers by chance, below n, always the same ones.
func dice(seed uint64) func(n int) int {
	return func(n int) int {
		seed = seed*6364136223846793005 + 1442695040888963407
		return int(seed>>33) % n
	}
}

// reads is how many numbers joined code reads first.
const reads = 8

// joined is a function in which so many blocks go on to one, that has so many phis: each takes one of these, by chance, from each of the blocks. Known are so many of them at a mark. Which way is gone hangs on what a phi has.
func joined(phis, ways, known int, seed uint64) api.Code {
	below := dice(seed)
	first, join := Goes(1), Goes(2)
	for v := range reads {
		first.Insts = append(first.Insts, Read(v))
	}
	mark := Mark()
	for p := range known {
		mark.Dbg = append(mark.Dbg, IsValue(p, reads+p, 1, int64(p)))
	}
	if known > 0 {
		join.Insts = append(join.Insts, mark)
	}
	for p := range phis {
		x := Phi(reads+p, below(reads))
		for range ways {
			x.Args = append(x.Args, reads+below(phis))
		}
		join.Phis = append(join.Phis, x)
	}
	blocks := []api.Block{first, join}
	for w := range ways {
		blocks = append(blocks, Branch(reads+below(phis), 1, 3+w))
	}
	last := &blocks[len(blocks)-1]
	last.End, last.To, last.Else = api.GoTo, 1, 0
	c := Main(blocks...)
	c.Funs[0].Vals = 2000
	return c
}

// lead answers inputs of joined code that lead its run on short ways, on long ones, and on all.
func lead() [][]int64 {
	return [][]int64{nums(1, 2, 3, 4, 5, 6, 7, 8), nums(0, 0, 0, 0, 0, 0, 0, 9), nums(0, 1, 0, 2, 0, 3, 0, 4), make([]int64, reads)}
}

// TestManyWaysToManyPhis: as many of both as there may be together.
func TestManyWaysToManyPhis(t *testing.T) {
	t.Parallel()
	for k, x := range [][2]int{{1000, 988}, {1010, 979}, {1024, 964}, {1100, 889}, {900, 1088}, {500, 1488}, {1500, 489}, {1800, 188}, {1920, 69}, {120, 1868}, {70, 1918}, {60, 1928}} {
		c := joined(x[0], x[1], x[0], 5)
		wantSmall(t, c)
		h := newHolder(t, c, k%2 == 0)
		h.holdRun(t, lead()[2], 60)
		h.holdRun(t, lead()[k%4], 25)
	}
}

// TestManyWaysFewToBeCarried: where phis take themselves mostly, or all take one value.
func TestManyWaysFewToBeCarried(t *testing.T) {
	t.Parallel()
	for _, take := range []func(p, way int) int{
		func(p, way int) int { return reads + p },
		func(p, way int) int { return (p + way) % 2 * (reads + p) },
		func(p, way int) int { return way % reads },
		func(p, way int) int { return reads + way },
		func(p, way int) int { return reads + (p+way)%989 },
	} {
		c := joined(989, 989, 989, 1)
		for p, x := range c.Funs[0].Blocks[1].Phis {
			for way := range x.Args[1:] {
				c.Funs[0].Blocks[1].Phis[p].Args[1+way] = take(p, way)
			}
		}
		wantSmall(t, c)
		h := newHolder(t, c, true)
		h.holdRun(t, lead()[2], 60)
		h.holdRun(t, lead()[1], 30)
	}
}

// steady is code of ways that go by ferry to two blocks with phis, in a function that another one calls; which way is gone is read.
func steady(phis, more, ways int, seed uint64) api.Code {
	below := dice(seed)
	c := joined(phis, ways, phis, seed)
	f := &c.Funs[0]
	f.Params = 1
	f.Blocks[0].Insts[0] = Param(0, 0)
	made, second := reads+phis, 2+ways
	for w := range ways {
		f.Blocks[2+w] = Branch(made+w, 1, 3+w, Read(made+w))
		if w%3 == 0 {
			f.Blocks[2+w].To = second
		}
	}
	f.Blocks[1+ways].Else = second + 1
	// Of three blocks two go on to the first one with phis, and the second one does.
	for p, x := range f.Blocks[1].Phis {
		f.Blocks[1].Phis[p].Args = x.Args[:1+ways-(ways+2)/3+1]
	}
	last := Goes(1)
	for p := range more {
		x := Phi(made+ways+p, reads+below(phis))
		for w := 3; w < ways; w += 3 {
			x.Args = append(x.Args, reads+below(phis))
		}
		last.Phis, last.Insts = append(last.Phis, x), append(last.Insts, Show(x.Dst))
	}
	f.Blocks = append(f.Blocks, last, Answers(reads, At(1, Mark(IsValue(0, reads+1, 1, 0)))))
	f.Vals = made + ways + more
	return Program(Fun(0, Ends(Read(0), At(2, Call(1, 1, 0), IsValue(3, 0, 1, 0)), Show(1))), *f)
}

// TestFerries: two in one function, that have as many lots as a trip has, and one less or more, or two trips.
func TestFerries(t *testing.T) {
	t.Parallel()
	for _, x := range [][3]int{{490, 40, 450}, {450, 75, 430}, {440, 76, 430}, {400, 150, 420}} {
		c := steady(x[0], x[1], x[2], 3)
		if size(c) > 2000 {
			t.Fatal(size(c))
		}
		for _, all := range []bool{false, true} {
			h := newHolder(t, c, all)
			for way := range 8 {
				input := nums(9, 8, 7, 6, 5, 4, 3, int64(way))
				for _, k := range []int{way * 20, way*20 + 7, x[2] - 1 - way} {
					input = append(append(input, make([]int64, k)...), 1)
				}
				if end := h.holdRun(t, input, 9000); end != api.TrapIn {
					t.Error(end)
				}
				if end := h.holdRun(t, append(input, make([]int64, x[2])...), 9000); end != api.Halt {
					t.Error(end)
				}
			}
		}
	}
}

// TestSmallFerries: code of all kinds, whose ways go by ferry, though there is room for them.
func TestSmallFerries(t *testing.T) {
	t.Parallel()
	hold := func(c api.Code, all bool, fuel int, inputs ...[]int64) {
		t.Helper()
		img, is := emit.ByFerry(c, all)
		if !is {
			t.Fatal("too long, or too slow")
		}
		wantSound(t, c, img)
		for _, input := range inputs {
			holderOf(c, img, all).holdRun(t, input, fuel)
		}
	}
	below := dice(24)
	for k := range 200 {
		phis, ways := 3+below(40)+below(2)*below(200), 10+below(60)
		all := k%2 == 0
		hold(joined(phis, ways, 1+below(phis), uint64(k)), all, 80, lead()...)
		c := steady(phis, 3+below(30), 30+ways, uint64(k))
		zeros := make([]int64, below(ways))
		input := append(append(lead()[k%4], zeros...), 1)
		input = append(append(append(input, zeros...), 1, 1), zeros...)
		hold(c, all, 600, append(input, 1), append(input, make([]int64, 200)...))
		hold(plainCode(t, uint64(k)), all, 300, samples.Bits(uint64(k), k%30))
	}
}

// TestFerriesGoInTime: where a run does nothing but go by them, on the shortest way that leads back.
func TestFerriesGoInTime(t *testing.T) {
	t.Parallel()
	for _, x := range [][2]int{{1000, 988}, {1500, 488}, {1920, 68}} {
		for way := range 3 {
			c := joined(x[0], x[1], 0, 5)
			b := &c.Funs[0].Blocks[1]
			b.Insts = append(b.Insts, Mark(IsValue(0, reads, 1, 0)))
			wantSmall(t, c)
			// No phi has 0: so the first block that asks for one leads back.
			for w := range way {
				c.Funs[0].Blocks[2+w] = Goes(3 + w)
			}
			for p := range b.Phis {
				b.Phis[p].Args = b.Phis[p].Args[:1+x[1]-way]
			}
			want, e := trace.Run(c, lead()[0], 200)
			if e != api.OK || want.End != api.StopFuel || want.Marks < 30 {
				t.Fatal(e, want)
			}
			m, _ := vm.New(mustImage(t, c, false), lead()[0])
			for range want.Marks {
				m.ToMark(1 << 30)
			}
			if n := m.Status(); n.Marks != want.Marks || n.Steps > enough(c, want.Steps) {
				t.Errorf("%d steps of the machine to %d marks, for %d steps", n.Steps, n.Marks, want.Steps)
			}
		}
	}
}

// TestCodeThatIsTooGreat: of more instructions than there may be, and of just as many.
func TestCodeThatIsTooGreat(t *testing.T) {
	t.Parallel()
	most := Main(Ends())
	for len(most.Funs) < api.MaxWords/2 {
		most.Funs = append(most.Funs, api.Fun{Blocks: []api.Block{{End: api.RetNone}}})
	}
	if img := mustImage(t, most, true); len(img.Words) != api.MaxWords {
		t.Error(len(img.Words))
	}
	more := api.Code{Funs: append(most.Funs[:len(most.Funs):len(most.Funs)], api.Fun{Blocks: []api.Block{{End: api.RetNone}}})}
	wantNoImage(t, "many functions", more, api.ErrLimit)
	// What is wrong goes ahead of what is too great.
	more.Stops = [][]api.Spot{{{Fn: -1}}}
	wantNoImage(t, "wrong stops", more, api.ErrForm)

	var l []api.Inst
	for v := range 100 {
		l = append(l, Read(v))
	}
	for k := range 39000 {
		l = append(l, Call(-1, 1, k%100, (k+17)%100, (k+34)%100, (k+51)%100, (k+68)%100, (k+85)%100))
	}
	for v := range 100 {
		l = append(l, Show(v))
	}
	calls := Program(Fun(0, Ends(l...)), Fun(6, Ends()))
	calls.Funs[0].Vals = 100
	wantNoImage(t, "calls", calls, api.ErrLimit)
	wantNoImage(t, "ways to phis", joined(6000, 2000, 0, 1), api.ErrForm)
	ways := joined(3000, 600, 3000, 1)
	ways.Funs[0].Vals = 3000 + reads
	wantNoImage(t, "ways to phis", ways, api.ErrLimit)
	few := joined(18000, 10, 0, 1)
	few.Funs[0].Vals = 18000 + reads
	wantNoImage(t, "few ways to very many phis", few, api.ErrLimit)
}

// TestLongCode: as long as there may be, that is not refused.
func TestLongCode(t *testing.T) {
	t.Parallel()
	var l []api.Inst
	for v := range 13000 {
		l = append(l, Read(v))
	}
	for v := range 13000 {
		l = append(l, Inst(api.Add, 13000+v, v, v*7%13000), Show(13000+v))
	}
	c := Main(Ends(l...))
	c.Funs[0].Vals = 26000
	for _, all := range []bool{false, true} {
		m, _ := vm.New(mustImage(t, c, all), samples.Bits(1, 13000))
		if m.Run(1 << 20); m.Status().End != api.Halt || len(m.Status().Outs) != 13000 {
			t.Error(m.Status().End)
		}
	}
	// Many functions with a mark each.
	c = Main(Ends())
	c.Stops = nil
	for i := range 19000 {
		c.Stops = append(c.Stops, []api.Spot{{Fn: i, Stmt: i}})
		c.Funs = append(c.Funs, Fun(0, Ends(At(i, Mark(IsNumber(i, int64(i)))))))
	}
	img, e := emit.Image(c, false)
	if e != api.OK || len(img.Entries) != 19001 {
		t.Error(e)
	}
}
