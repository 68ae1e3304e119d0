package emit_test

import (
	"testing"

	"teasel/api"
	"teasel/code"
	"teasel/emit"
	. "teasel/parts"
	"teasel/samples"
	"teasel/trace"
	"teasel/vm"
)

// size answers how many instructions, phis and blocks code has.
func size(c api.Code) int {
	n := code.Size(c)
	for _, f := range c.Funs {
		n += len(f.Blocks)
	}
	return n
}

// wantSmall holds that code is no greater than what is never refused.
func wantSmall(t *testing.T, c api.Code) {
	t.Helper()
	if n := size(c); n > 2000 || !code.Plain(c) {
		t.Fatal(n, code.Check(c))
	}
	for _, f := range c.Funs {
		if f.Vals > 2000 {
			t.Fatal(f.Vals)
		}
	}
}

// TestManyValuesAtOnce: 1,999 that a mark knows, 999 that are printed, and what makes each from others.
func TestManyValuesAtOnce(t *testing.T) {
	t.Parallel()
	var made, used, rest []api.Inst
	mark := Mark()
	for v := range 1998 {
		made = append(made, Read(v))
		mark.Dbg = append(mark.Dbg, IsValue(v, v, int64(v), 1))
	}
	known := Main(Ends(append(made, mark)...))
	for v := range 999 {
		used = append(used, Show(998-v))
	}
	printed := Main(Ends(append(made[:999:999], used...)...))
	for v := range 1000 {
		if v%2 > 0 {
			rest = append(rest, At(3, Inst(api.IStore, -1, v%998, (v+331)%998, (v+662)%998)))
		} else {
			rest = append(rest, Show(v%998))
		}
	}
	stored := Main(Ends(append(made[:998:998], rest...)...))
	stored.Funs[0].Blocks[0].Insts[997] = api.Inst{Op: api.IAlloc, Dst: 997, Imm: 5}
	for _, c := range []api.Code{known, printed, stored} {
		c.Funs[0].Vals = 2000
		wantSmall(t, c)
		input := samples.Bits(5, 2000)
		for _, all := range []bool{false, true} {
			newHolder(t, c, all).holdRun(t, input, 9000)
		}
	}
}

// TestManyCalls: 1,900 of six arguments each, all in slots.
func TestManyCalls(t *testing.T) {
	t.Parallel()
	var l []api.Inst
	for v := range 40 {
		l = append(l, Read(v))
	}
	for k := range 1900 {
		args := []int{}
		for i := range api.MaxParams {
			args = append(args, (k+7*i)%40)
		}
		l = append(l, At(2, Call(40+k, 1, args...), IsValue(0, k%40, 1, 0)))
	}
	for k := range 50 {
		l = append(l, Show(40+k*38))
	}
	c := Program(Fun(0, Ends(l...)), Fun(6, Answers(2, Param(0, 0), Param(1, 5), Inst(api.Sub, 2, 0, 1))))
	c.Funs[0].Vals = 2000
	wantSmall(t, c)
	wantEnd(t, "calls", c, samples.Bits(9, 40), api.Halt)
}

// dice answers numbers by chance, below n, always the same ones.
func dice(seed uint64) func(n int) int {
	return func(n int) int {
		seed = seed*6364136223846793005 + 1442695040888963407
		return int(seed>>33) % n
	}
}

// joined is a function in which so many blocks go on to one, that has so many phis: each takes one of them, by chance, from each of these. Known are so many of them at a mark.
func joined(phis, ways, known int, seed uint64) api.Code {
	below := dice(seed)
	mark := Mark()
	for p := range known {
		mark.Dbg = append(mark.Dbg, IsValue(p, 1+p, 1, int64(p)))
	}
	join := Goes(2)
	if known > 0 {
		join.Insts = append(join.Insts, mark)
	}
	for p := range phis {
		x := Phi(1+p, 0)
		for range ways {
			x.Args = append(x.Args, 1+below(phis))
		}
		x.Args[1+below(ways)] = 0
		join.Phis = append(join.Phis, x)
	}
	blocks := []api.Block{Goes(1, Read(0)), join}
	for w := range ways {
		// A phi that isn't 0 leads back; the value that is read comes to each of them again and again.
		blocks = append(blocks, Branch(1+below(phis), 1, 3+w))
	}
	last := &blocks[len(blocks)-1]
	last.End, last.To, last.Else = api.GoTo, 1, 0
	c := Main(blocks...)
	c.Funs[0].Vals = 2000
	return c
}

// TestManyWaysToManyPhis: as many of both as there may be together, with all known and with none.
func TestManyWaysToManyPhis(t *testing.T) {
	t.Parallel()
	for _, x := range [][2]int{{1000, 996}, {1022, 974}, {1024, 972}, {1100, 896}, {900, 1096}, {500, 1496}, {1500, 496}, {1800, 196}, {1925, 71}, {60, 1936}} {
		for _, known := range []int{0, x[0]} {
			c := joined(x[0], x[1], known, 5)
			wantSmall(t, c)
			h := newHolder(t, c, known > 0)
			h.holdRun(t, nums(5), 40)
			h.holdRun(t, nums(0), 2*x[1])
		}
	}
}

// TestManyWaysFewToBeCarried: where phis take themselves mostly, or all take one value.
func TestManyWaysFewToBeCarried(t *testing.T) {
	t.Parallel()
	for _, take := range []func(p, way int) int{
		func(p, way int) int { return 1 + p },
		func(p, way int) int { return (p + way) % 2 * (1 + p) },
		func(p, way int) int { return 0 },
		func(p, way int) int { return 1 + way },
		func(p, way int) int { return 1 + (p+way)%995 },
	} {
		c := joined(996, 996, 996, 1)
		for p, x := range c.Funs[0].Blocks[1].Phis {
			for way := range x.Args[1:] {
				x.Args[1+way] = take(p, way)
			}
		}
		wantSmall(t, c)
		h := newHolder(t, c, true)
		h.holdRun(t, nums(5), 60)
		h.holdRun(t, nums(0), 2000)
	}
}

// steady is code of ways that come by ferry to two blocks with phis, in a function that is called in another one; which way is gone is read.
func steady(phis, ways int, seed uint64) api.Code {
	below := dice(seed)
	c := joined(phis, ways, phis, seed)
	f := &c.Funs[0]
	f.Params = 1
	f.Vals = 1 + phis + ways + 40
	f.Blocks[0].Insts[0] = Param(0, 0)
	second := len(f.Blocks)
	for w := range ways {
		b := &f.Blocks[2+w]
		read := 1 + phis + w
		*b = Branch(read, 1, 3+w, Read(read))
		if w%3 == 0 {
			b.To = second
		}
	}
	last := Goes(1)
	for p := range 40 {
		x := Phi(1+phis+ways+p, 1+below(phis))
		for w := range ways {
			if w%3 == 0 && w > 0 {
				x.Args = append(x.Args, 1+below(phis))
			}
		}
		last.Phis = append(last.Phis, x)
		last.Insts = append(last.Insts, Show(x.Dst))
	}
	end := Answers(1, At(1, Mark(IsValue(0, 2, 1, 0))))
	f.Blocks[1+ways].Else = second + 1
	f.Blocks = append(f.Blocks, last, end)
	// The blocks that go on to the first one are others now.
	for p, x := range f.Blocks[1].Phis {
		x.Args = []int{0}
		for w := range ways {
			if w%3 > 0 {
				x.Args = append(x.Args, below(1+phis))
			}
		}
		f.Blocks[1].Phis[p].Args = append(x.Args, below(1+phis))
	}
	return Program(Fun(0, Ends(Read(0), At(2, Call(1, 1, 0), IsValue(3, 0, 1, 0)), Show(1))), c.Funs[0])
}

// TestFerries: two in one function, one of which has more lots than a trip; each way is gone.
func TestFerries(t *testing.T) {
	t.Parallel()
	c := steady(500, 480, 3)
	wantSmall(t, c)
	for _, all := range []bool{false, true} {
		h := newHolder(t, c, all)
		for way := range 24 {
			input := []int64{int64(way + 3)}
			for _, k := range []int{way * 20, way*20 + 7, 479 - way} {
				input = append(append(input, make([]int64, k)...), 1)
			}
			if end := h.holdRun(t, input, 9000); end != api.TrapIn {
				t.Error(end)
			}
			if end := h.holdRun(t, append(input, make([]int64, 480)...), 9000); end != api.Halt {
				t.Error(end)
			}
		}
	}
}

// TestFerriesGoInTime: where a run does nothing but go by them, on the shortest way that leads back.
func TestFerriesGoInTime(t *testing.T) {
	t.Parallel()
	for _, x := range [][2]int{{1000, 995}, {1500, 495}, {1900, 95}, {1920, 75}} {
		for way := range 4 {
			c := joined(x[0], x[1], 0, 5)
			b := &c.Funs[0].Blocks[1]
			b.Insts = append(b.Insts, Mark(IsValue(0, 1, 1, 0)))
			wantSmall(t, c)
			// All phis have what was read: it leads back from the first block that asks for it.
			for w := range way {
				c.Funs[0].Blocks[2+w] = Goes(3 + w)
			}
			for p := range b.Phis {
				b.Phis[p].Args = b.Phis[p].Args[:1+x[1]-way]
			}
			want, e := trace.Run(c, nums(1), 200)
			if e != api.OK || want.End != api.StopFuel || want.Marks < 30 {
				t.Fatal(e, want)
			}
			m, _ := vm.New(mustImage(t, c, false), nums(1))
			for range want.Marks {
				m.ToMark(1 << 30)
			}
			t.Log(x, way, want.Marks, m.Status().Steps, enough(c, want.Steps))
			if n := m.Status(); n.Marks != want.Marks || n.Steps > enough(c, want.Steps) {
				t.Errorf("%d steps of the machine to %d marks, for %d steps", n.Steps, n.Marks, want.Steps)
			}
		}
	}
}

// TestCodeThatIsTooGreat: of more instructions than there may be, and of just as many.
func TestCodeThatIsTooGreat(t *testing.T) {
	t.Parallel()
	most := Main(Ends())
	for len(most.Funs) < api.MaxWords/2 {
		most.Funs = append(most.Funs, api.Fun{Blocks: []api.Block{{End: api.RetNone}}})
	}
	if img := mustImage(t, most, true); len(img.Words) != api.MaxWords {
		t.Error(len(img.Words))
	}
	more := api.Code{Funs: append(most.Funs[:len(most.Funs):len(most.Funs)], api.Fun{Blocks: []api.Block{{End: api.RetNone}}})}
	wantNoImage(t, "many functions", more, api.ErrLimit)
	// What is wrong goes ahead of what is too great.
	more.Stops = [][]api.Spot{{{Fn: -1}}}
	wantNoImage(t, "wrong stops", more, api.ErrForm)

	var l []api.Inst
	for v := range 100 {
		l = append(l, Read(v))
	}
	for k := range 39000 {
		l = append(l, Call(-1, 1, k%100, (k+17)%100, (k+34)%100, (k+51)%100, (k+68)%100, (k+85)%100))
	}
	for v := range 100 {
		l = append(l, Show(v))
	}
	calls := Program(Fun(0, Ends(l...)), Fun(6, Ends()))
	calls.Funs[0].Vals = 100
	wantNoImage(t, "calls", calls, api.ErrLimit)
	wantNoImage(t, "ways to phis", joined(6000, 2000, 0, 1), api.ErrForm)
	ways := joined(6000, 600, 6000, 1)
	ways.Funs[0].Vals = 6001
	wantNoImage(t, "ways to phis", ways, api.ErrLimit)
	few := joined(18000, 10, 0, 1)
	few.Funs[0].Vals = 18001
	wantNoImage(t, "few ways to very many phis", few, api.ErrLimit)
}

// TestLongCode: as long as there may be, that is not refused.
func TestLongCode(t *testing.T) {
	t.Parallel()
	var l []api.Inst
	for v := range 13000 {
		l = append(l, Read(v))
	}
	for v := range 13000 {
		l = append(l, Inst(api.Add, 13000+v, v, v*7%13000), Show(13000+v))
	}
	c := Main(Ends(l...))
	c.Funs[0].Vals = 26000
	for _, all := range []bool{false, true} {
		m, _ := vm.New(mustImage(t, c, all), samples.Bits(1, 13000))
		if m.Run(1 << 20); m.Status().End != api.Halt || len(m.Status().Outs) != 13000 {
			t.Error(m.Status().End)
		}
	}
	// Many functions with a mark each.
	c = Main(Ends())
	c.Stops = nil
	for i := range 19000 {
		c.Stops = append(c.Stops, []api.Spot{{Fn: i, Stmt: i}})
		c.Funs = append(c.Funs, Fun(0, Ends(At(i, Mark(IsNumber(i, int64(i)))))))
	}
	img, e := emit.Image(c, false)
	if e != api.OK || len(img.Entries) != 19001 {
		t.Error(e)
	}
}
