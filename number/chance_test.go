package number_test

import (
	"reflect"
	"testing"

	"teasel/api"
	"teasel/code"
	"teasel/lower"
	"teasel/number"
	. "teasel/parts"
	"teasel/samples"
	"teasel/ssa"
	"teasel/tree"
)

// TestMuchThatIsTheSame: code of few things and few numbers, led along several ways. Much of it is there twice, and all of that is found at once: a second Run finds nothing more.
func TestMuchThatIsTheSame(t *testing.T) {
	had := map[byte]int{}
	phis, numbers, others := 0, 0, 0
	for seed := range uint64(800) {
		c := samples.Plain(seed, 1+int(seed%30))
		d := mustRun(t, c)
		gone := code.Size(c) - code.Size(d)
		p, n := Count(c, api.IPhi)-Count(d, api.IPhi), Count(c, api.IConst)-Count(d, api.IConst)
		phis, numbers, others = phis+p, numbers+n, others+gone-p-n-Count(c, api.ICopy)
		for way := range uint64(4) {
			had[holdRuns(t, c, d, samples.Bits(seed*4+way, int(seed%40)), 300)]++
		}
		if again, e := number.Run(d); e != api.OK || !reflect.DeepEqual(again, d) {
			t.Fatalf("%d: a second Run makes of\n%s:\n%s", e, told(d), told(again))
		}
	}
	if phis < 3000 || numbers < 1000 || others < 1000 || had[api.Halt] < 500 || had[api.TrapZero] < 200 || had[api.TrapIn] < 30 || had[api.StopFuel] < 200 {
		t.Error(phis, numbers, others, had)
	}
}

// program answers the plain code of a text.
func program(t *testing.T, text string) api.Code {
	t.Helper()
	p, _, e := tree.Parse(text)
	if e != api.OK {
		t.Fatal(e, text)
	}
	c, _, e := lower.Program(p)
	if e != api.OK {
		t.Fatal(e, text)
	}
	c, e = ssa.Build(c)
	if e != api.OK {
		t.Fatal(e, text)
	}
	return c
}

// TestAProgram: with sums that are there several times, in loops and conditions.
func TestAProgram(t *testing.T) {
	c := program(t, "fn f(n: int, m: int): int { let s: int = 0; let i: int = n + m; while i > n { let a: int = n * m; if a == m * n { s = s + (m + n); } else { s = s - (n + m); } print n * m; i = i - 1; } return s / (n + m) + s / (m + n); } fn main(): int { return f(read(), read()); }")
	holdEnd(t, c, api.Halt, nums(2, 3), 6, 6, 6)
	wantCount(t, c, api.Mul, 1)
	wantCount(t, c, api.Div, 1)
	wantCount(t, c, api.Sub, 2)
	wantCount(t, c, api.Add, 3)
}

// TestProgramsByChance: as they are lowered.
func TestProgramsByChance(t *testing.T) {
	for seed := range uint64(200) {
		hold(t, program(t, samples.Text(seed, 0)), nums(3, -1, 0, int64(seed), 7, 1, 2, 5)[:seed%9], 2000)
	}
}

func FuzzRun(f *testing.F) {
	for seed := range uint64(20) {
		f.Add(seed, 12, seed*77, 40)
	}
	f.Fuzz(func(t *testing.T, seed uint64, blocks int, way uint64, n int) {
		blocks = max(1, blocks%60)
		input := samples.Bits(way, max(0, n%80))
		hold(t, samples.Plain(seed, blocks), input, 400)
		hold(t, samples.Code(seed, 0, 0), input, 400)
		if c, e := ssa.Build(samples.Ways(seed, blocks, blocks%12)); e == api.OK {
			hold(t, c, input, 400)
		}
	})
}
