package calls_test

import (
	"testing"

	"teasel/api"
	"teasel/lower"
	. "teasel/parts"
	"teasel/samples"
	"teasel/ssa"
	"teasel/trace"
	"teasel/tree"
)

// TestCallsByChance: of functions of several blocks, led along several ways; and twice.
func TestCallsByChance(t *testing.T) {
	had := map[byte]int{}
	was, left, again := 0, 0, 0
	for seed := range uint64(1000) {
		c := samples.Calls(seed, 1+int(seed%8))
		d := mustRun(t, c)
		e := mustRun(t, d)
		was, left, again = was+Count(c, api.ICall), left+Count(d, api.ICall), again+Count(e, api.ICall)
		for way := range uint64(3) {
			input := samples.Bits(seed*4+way, int(seed%40))
			had[holdRuns(t, c, d, input, 300)]++
			holdRuns(t, c, e, input, 300)
		}
	}
	if left*2 > was || again >= left || had[api.Halt] < 1000 || had[api.TrapZero] < 200 || had[api.TrapCell] < 30 || had[api.TrapIn] < 50 || had[api.StopFuel] < 400 {
		t.Error(was, left, again, had)
	}
}

// program answers the plain code of a text.
func program(t *testing.T, text string) api.Code {
	t.Helper()
	p, _, e := tree.Parse(text)
	if e != api.OK {
		t.Fatal(e, text)
	}
	c, _, e := lower.Program(p)
	if e != api.OK {
		t.Fatal(e, text)
	}
	c, e = ssa.Build(c)
	if e != api.OK {
		t.Fatal(e, text)
	}
	return c
}

// TestAProgram: functions with conditions, loops and arrays, called in expressions and conditions.
func TestAProgram(t *testing.T) {
	c := program(t, "fn least(a: int, b: int): int { if a < b { return a; } return b; } fn sum(n: int): int { let s: int = 0; while n > 0 { s = s + n; n = n - 1; } return s; } fn put(a: arr, i: int) { a[i] = i; } fn main(): int { let a: arr[3]; let i: int = 0; while least(i, 3) < 3 { put(a, i); print sum(i) + a[i]; i = i + 1; } return least(sum(3), 5) * 10 + a[2]; }")
	wantCalls(t, c, 0, 0, 0, 0)
	holdEnd(t, c, api.Halt, nil, 0, 2, 5)
	if r, _ := trace.Run(mustRun(t, c), nil, 9999); r.Exit != 52 || r.Calls != 1 {
		t.Errorf("%+v", r)
	}
}

// TestProgramsByChance: as they are lowered.
func TestProgramsByChance(t *testing.T) {
	was, left := 0, 0
	for seed := range uint64(300) {
		c := program(t, samples.Text(seed, 0))
		hold(t, c, nums(3, -1, 0, int64(seed), 7, 1, 2, 5)[:seed%9], 2000)
		was, left = was+Count(c, api.ICall), left+Count(mustRun(t, c), api.ICall)
	}
	if was-left < 30 {
		t.Error(was, left)
	}
}

func FuzzRun(f *testing.F) {
	for seed := range uint64(20) {
		f.Add(seed, 12, seed*77, 40)
	}
	f.Fuzz(func(t *testing.T, seed uint64, blocks int, way uint64, n int) {
		blocks = max(1, blocks%60)
		input := samples.Bits(way, max(0, n%80))
		hold(t, samples.Calls(seed, blocks), input, 400)
		hold(t, samples.Plain(seed, blocks), input, 400)
		hold(t, samples.Code(seed, 0, 0), input, 400)
		if c, e := ssa.Build(samples.Ways(seed, blocks, blocks%12)); e == api.OK {
			hold(t, c, input, 400)
		}
	})
}
