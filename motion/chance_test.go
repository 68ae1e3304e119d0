package motion_test

import (
	"reflect"
	"testing"

	"teasel/api"
	"teasel/code"
	"teasel/lower"
	"teasel/motion"
	. "teasel/parts"
	"teasel/samples"
	"teasel/ssa"
	"teasel/trace"
	"teasel/tree"
)

// moved answers how many instructions stand in another block than before.
func moved(c, d api.Code) int {
	n := 0
	for k, f := range c.Funs {
		where := map[int]int{}
		for i, b := range f.Blocks {
			for _, x := range b.Insts {
				where[x.Dst] = i
			}
		}
		for i, b := range d.Funs[k].Blocks {
			for _, x := range b.Insts {
				if x.Dst != -1 && where[x.Dst] != i {
					n++
				}
			}
		}
	}
	return n
}

// blocks answers how many blocks all functions have.
func blocks(c api.Code) int {
	n := 0
	for _, f := range c.Funs {
		n += len(f.Blocks)
	}
	return n
}

// TestLoopsByChance: loops in loops, entered and left in many ways, led along several ways. All is moved at once: a second Run finds nothing more.
func TestLoopsByChance(t *testing.T) {
	t.Parallel()
	had := map[byte]int{}
	much, phis, more := 0, 0, 0
	for seed := range uint64(900) {
		c := samples.Loops(seed, 1+int(seed%30))
		d := mustRun(t, c)
		much, phis, more = much+moved(c, d), phis+Count(d, api.IPhi)-Count(c, api.IPhi), more+blocks(d)-blocks(c)
		for way := range uint64(4) {
			had[holdRuns(t, c, d, samples.Bits(seed*4+way, int(seed%60)), 400)]++
		}
		if again, e := motion.Run(d); e != api.OK || !reflect.DeepEqual(again, d) {
			t.Fatalf("%d: a second Run makes of\n%s:\n%s", e, told(d), told(again))
		}
	}
	if much < 8000 || phis < 300 || more < 2000 || had[api.Halt] < 1500 || had[api.TrapZero] < 20 || had[api.TrapIn] < 150 || had[api.StopFuel] < 500 {
		t.Error(much, phis, more, had)
	}
}

// TestCodeByChance: of all kinds.
func TestCodeByChance(t *testing.T) {
	t.Parallel()
	had := map[byte]int{}
	for seed := range uint64(1000) {
		had[hold(t, samples.Code(seed, 0, 0), nums(3, -1, 0, int64(seed), 7, 1, 2, 5)[:seed%9], 300)]++
		hold(t, samples.Plain(seed, 1+int(seed%40)), samples.Bits(seed, 30), 300)
	}
	for end := byte(api.Halt); end <= api.Wrong; end++ {
		if had[end] < 3 && end != api.StopCall {
			t.Errorf("only %d of the runs end with %d", had[end], end)
		}
	}
}

// program answers the plain code of a text.
func program(t *testing.T, text string) api.Code {
	t.Helper()
	p, _, e := tree.Parse(text)
	if e != api.OK {
		t.Fatal(e, text)
	}
	c, _, e := lower.Program(p)
	if e != api.OK {
		t.Fatal(e, text)
	}
	c, e = ssa.Build(c)
	if e != api.OK {
		t.Fatal(e, text)
	}
	return c
}

// TestAProgram: whose inner loop makes again and again what hangs on the outer one, or on none.
func TestAProgram(t *testing.T) {
	t.Parallel()
	c := program(t, "fn main(): int { let n: int = read(); let m: int = read(); let s: int = 0; let i: int = 0; while i < n { let j: int = 0; while j < m { let a: int = n * m; let b: int = i * n + a; s = s + b * j; j = j + 1; } i = i + 1; } print s; return s; }")
	holdEnd(t, c, api.Halt, nums(3, 4), 270)
	holdEnd(t, c, api.Halt, nums(0, 0), 0)
	d := mustRun(t, c)
	x, _ := trace.Run(c, nums(9, 9), 99999)
	y, e := trace.Run(d, nums(9, 9), 99999)
	// Of the 81 turns of the inner loop each is spared two products, a sum and a number.
	if e != api.OK || y.End != api.Halt || x.Steps-y.Steps < 4*80 {
		t.Error(x.Steps, y.Steps)
	}
	if code.Size(d) != code.Size(c) {
		t.Error(code.Size(c), code.Size(d))
	}
}

// TestProgramsByChance: as they are lowered.
func TestProgramsByChance(t *testing.T) {
	t.Parallel()
	for seed := range uint64(200) {
		hold(t, program(t, samples.Text(seed, 0)), nums(3, -1, 0, int64(seed), 7, 1, 2, 5)[:seed%9], 2000)
	}
}

func FuzzRun(f *testing.F) {
	for seed := range uint64(20) {
		f.Add(seed, 12, seed*77, 40)
	}
	f.Fuzz(func(t *testing.T, seed uint64, blocks int, way uint64, n int) {
		blocks = max(1, blocks%60)
		input := samples.Bits(way, max(0, n%80))
		hold(t, samples.Loops(seed, blocks), input, 400)
		hold(t, samples.Plain(seed, blocks), input, 400)
		hold(t, samples.Code(seed, 0, 0), input, 400)
		if c, e := ssa.Build(samples.Ways(seed, blocks, blocks%12)); e == api.OK {
			hold(t, c, input, 400)
		}
	})
}
