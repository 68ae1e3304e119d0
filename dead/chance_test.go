package dead_test

import (
	"math"
	"reflect"
	"testing"

	"teasel/api"
	"teasel/code"
	"teasel/dead"
	"teasel/lower"
	. "teasel/parts"
	"teasel/samples"
	"teasel/ssa"
	"teasel/trace"
	"teasel/tree"
)

// shown answers how many variables are shown at all marks of a run.
func shown(c api.Code, input []int64) int {
	n := 0
	for k := 1; ; k++ {
		l, _, e := trace.State(c, input, k, 200)
		if e != api.OK {
			return n
		}
		for _, f := range l {
			n += len(f.Vars)
		}
	}
}

// TestRowsByChance: what the chapter asks for is told, and with the numbers that it had; most of it is gone.
func TestRowsByChance(t *testing.T) {
	made, left, was, is := 0, 0, 0, 0
	for seed := range uint64(4000) {
		c := samples.Rows(seed)
		input := nums(int64(seed), math.MinInt64, 1, math.MaxInt64, 5, 6, 7, 8, 9)
		hold(t, c, input, 99)
		d := mustRun(t, c)
		made, left = made+code.Size(c), left+code.Size(d)
		was, is = was+shown(c, input), is+shown(d, input)
	}
	if left*2 > made || is*100 < was*60 || is*100 > was*99 {
		t.Errorf("of %d there are %d, of %d shown %d", made, left, was, is)
	}
}

// TestMuchThatIsNotNeeded: code of few things, led along several ways. All that isn't needed is gone at once: a second Run finds nothing more.
func TestMuchThatIsNotNeeded(t *testing.T) {
	had := map[byte]int{}
	phis, others := 0, 0
	for seed := range uint64(800) {
		c := samples.Plain(seed, 1+int(seed%30))
		d := mustRun(t, c)
		p := Count(c, api.IPhi) - Count(d, api.IPhi)
		phis, others = phis+p, others+code.Size(c)-code.Size(d)-p
		for way := range uint64(4) {
			had[holdRuns(t, c, d, samples.Bits(seed*4+way, int(seed%40)), 300)]++
		}
		if again, e := dead.Run(d); e != api.OK || !reflect.DeepEqual(again, d) {
			t.Fatalf("%d: a second Run makes of\n%s:\n%s", e, told(d), told(again))
		}
	}
	if phis < 3000 || others < 10000 || had[api.Halt] < 500 || had[api.TrapZero] < 200 || had[api.TrapIn] < 30 || had[api.StopFuel] < 200 {
		t.Error(phis, others, had)
	}
}

// program answers the plain code of a text.
func program(t *testing.T, text string) api.Code {
	t.Helper()
	p, _, e := tree.Parse(text)
	if e != api.OK {
		t.Fatal(e, text)
	}
	c, _, e := lower.Program(p)
	if e != api.OK {
		t.Fatal(e, text)
	}
	c, e = ssa.Build(c)
	if e != api.OK {
		t.Fatal(e, text)
	}
	return c
}

// TestAProgram: what it computes for nobody is gone, in its loop, too, and is shown as before.
func TestAProgram(t *testing.T) {
	c := program(t, "fn main(): int { let n: int = read(); let i: int = 0; let s: int = 0; while i < n { let t: int = i * 4 + 3; let u: int = -t << 2; s = s + t * t; print i; i = i + 1; } return n; }")
	holdEnd(t, c, api.Halt, nums(3), 0, 1, 2)
	d := mustRun(t, c)
	if m, s, n := Count(d, api.Mul), Count(d, api.Shl), Count(d, api.IPhi); m != 0 || s != 0 || n != 1 {
		t.Errorf("%d products, %d shifts, %d phis: %s", m, s, n, told(d))
	}
	// Behind the print of the second turn: t = 7, u = -28; s, a sum of squares, can't be told.
	l, outs, e := trace.State(d, nums(3), 15, 999)
	if e != api.OK || outs != 2 || len(l) != 1 || !reflect.DeepEqual(l[0].Vars, []api.Shown{{Var: 0, Has: true, N: 3}, {Var: 1, Has: true, N: 1}, {Var: 3, Has: true, N: 7}, {Var: 4, Has: true, N: -28}}) {
		t.Errorf("%d, %d: %+v", e, outs, l)
	}
}

// TestProgramsByChance: as they are lowered.
func TestProgramsByChance(t *testing.T) {
	for seed := range uint64(200) {
		hold(t, program(t, samples.Text(seed, 0)), nums(3, -1, 0, int64(seed), 7, 1, 2, 5)[:seed%9], 2000)
	}
}

func FuzzRun(f *testing.F) {
	for seed := range uint64(20) {
		f.Add(seed, 12, seed*77, 40)
	}
	f.Fuzz(func(t *testing.T, seed uint64, blocks int, way uint64, n int) {
		blocks = max(1, blocks%60)
		input := samples.Bits(way, max(0, n%80))
		hold(t, samples.Rows(seed), input, 99)
		hold(t, samples.Plain(seed, blocks), input, 400)
		hold(t, samples.Code(seed, 0, 0), input, 400)
		if c, e := ssa.Build(samples.Ways(seed, blocks, blocks%12)); e == api.OK {
			hold(t, c, input, 400)
		}
	})
}
