package ssa_test

import (
	"testing"

	"teasel/api"
	"teasel/code"
	"teasel/lower"
	"teasel/samples"
	"teasel/tree"
)

// TestCodeByChance: each way in which a run ends, with the state at each mark.
func TestCodeByChance(t *testing.T) {
	had := map[byte]int{}
	for seed := range uint64(5000) {
		input := nums(3, -1, 0, int64(seed), 7, 1, -1<<63, 2, 5, 1, 1)[:seed%12]
		fuel := 300
		if seed%8 == 0 {
			fuel = int(seed % 53)
		}
		had[hold(t, samples.Code(seed, int(seed%7), 0), input, fuel)]++
	}
	for end := byte(api.Halt); end <= api.Wrong; end++ {
		if had[end] < 10 && end != api.StopCall {
			t.Errorf("only %d of the runs end with %d", had[end], end)
		}
	}
}

// TestWaysByChance: code of many blocks and variables, led along several ways.
func TestWaysByChance(t *testing.T) {
	had := map[byte]int{}
	for seed := range uint64(700) {
		c := samples.Ways(seed, 1+int(seed%45), int(seed%9))
		d := mustBuild(t, c)
		for way := range uint64(4) {
			had[holdRuns(t, c, d, samples.Bits(seed*4+way, int(seed%60)), 400)]++
		}
	}
	if had[api.Halt] < 300 || had[api.TrapIn] < 300 || had[api.StopFuel] < 50 {
		t.Error(had)
	}
}

// TestProgramsByChance: as they are lowered.
func TestProgramsByChance(t *testing.T) {
	for seed := range uint64(700) {
		p, _, e := tree.Parse(samples.Text(seed, 0))
		if e != api.OK {
			t.Fatal(seed, e)
		}
		c, _, e := lower.Program(p)
		if e != api.OK {
			t.Fatal(seed, e)
		}
		hold(t, c, nums(3, -1, 0, int64(seed), 7, 1, 2, 5)[:seed%9], 3000)
	}
}

// TestAProgram: with loops, conditions in conditions, and variables that are sure on some ways alone.
func TestAProgram(t *testing.T) {
	p, _, _ := tree.Parse("fn f(n: int, b: bool): int { let x: int; let a: arr[3]; while n > 0 && b { x = n; n = n - 1; let y: int; if x == 2 { y = 7; } else { y = x; } a[n] = y; } x = a[0] + a[1] + a[2]; return x; } fn main(): int { let i: int = 0; while i < 4 { print f(i, i != 1); i = i + 1; } return i; }")
	c, _, e := lower.Program(p)
	if e != api.OK {
		t.Fatal(e)
	}
	holdOuts(t, c, nil, 0, 0, 8, 11)
}

// ownNumbers answers the code with a number of its own for each setting, and with each value that is got printed.
func ownNumbers(c api.Code) api.Code {
	c = code.Copy(c)
	for i := range c.Funs {
		f := &c.Funs[i]
		for k := range f.Blocks {
			var l []api.Inst
			for _, x := range f.Blocks[k].Insts {
				switch x.Op {
				case api.ISet:
					l = append(l, number(f.Vals, int64(f.Vals)))
					x.Args = []int{f.Vals}
					f.Vals++
					l = append(l, x)
				case api.IGet:
					l = append(l, x, show(x.Dst))
				default:
					l = append(l, x)
				}
			}
			f.Blocks[k].Insts = l
		}
	}
	return c
}

// TestNoNeedlessPhis: of those that are new each takes two unlike values, neither of which is its own, and is asked for, be it by one that is.
func TestNoNeedlessPhis(t *testing.T) {
	phis := 0
	for seed := range uint64(600) {
		c := ownNumbers(samples.Ways(seed, 1+int(seed%60), 1+int(seed%5)))
		d := mustBuild(t, c)
		for i, g := range d.Funs {
			asked := askedFor(g)
			for k, b := range g.Blocks {
				for _, x := range b.Phis[len(c.Funs[i].Blocks[k].Phis):] {
					phis++
					if !asked[x.Dst] || !takesTwo(x) {
						t.Fatalf("%d: the phi %+v is needless, in\n%s", seed, x, told(g))
					}
				}
			}
		}
	}
	if phis < 3000 {
		t.Error("only so many phis:", phis)
	}
}

func takesTwo(x api.Inst) bool {
	others := map[int]bool{}
	for _, v := range x.Args {
		others[v] = others[v] || v != x.Dst
	}
	delete(others, x.Dst)
	return len(others) > 1
}

// askedFor tells which values are used by an instruction or an end, or are known, or are taken by a phi that is so asked for.
func askedFor(f api.Fun) map[int]bool {
	asked, takes := map[int]bool{}, map[int][]int{}
	var ask func(v int)
	ask = func(v int) {
		if asked[v] {
			return
		}
		asked[v] = true
		for _, a := range takes[v] {
			ask(a)
		}
	}
	for _, b := range f.Blocks {
		for _, x := range b.Phis {
			takes[x.Dst] = x.Args
		}
	}
	for _, b := range f.Blocks {
		for _, x := range b.Insts {
			for _, v := range x.Args {
				ask(v)
			}
			for _, d := range x.Dbg {
				if d.Kind == api.DVal {
					ask(d.Arg)
				}
			}
		}
		if b.End == api.Branch || b.End == api.RetVal {
			ask(b.Arg)
		}
	}
	return asked
}

func FuzzBuild(f *testing.F) {
	for seed := range uint64(20) {
		f.Add(seed, 12, 4, seed*77, 40)
	}
	f.Fuzz(func(t *testing.T, seed uint64, blocks, vars int, way uint64, n int) {
		blocks, vars = max(1, blocks%70), max(0, vars%12)
		hold(t, samples.Ways(seed, blocks, vars), samples.Bits(way, max(0, n%80)), 500)
		hold(t, samples.Code(seed, vars, 0), samples.Bits(way, max(0, n%80)), 500)
	})
}
