package fold_test

import (
	"reflect"
	"testing"

	"teasel/api"
	"teasel/fold"
	"teasel/lower"
	. "teasel/parts"
	"teasel/samples"
	"teasel/ssa"
	"teasel/tree"
)

// TestMuchThatIsKnown: code of few things and few numbers, led along several ways. Much of it becomes known, and all at once: a second Run finds nothing more.
func TestMuchThatIsKnown(t *testing.T) {
	had := map[byte]int{}
	gone, phis, branches := 0, 0, 0
	for seed := range uint64(1000) {
		c := samples.Plain(seed, 1+int(seed%30))
		d := mustRun(t, c)
		for i, f := range c.Funs {
			gone += len(f.Blocks) - len(d.Funs[i].Blocks)
		}
		phis += Count(c, api.IPhi) - Count(d, api.IPhi)
		branches += ends(c, api.Branch) - ends(d, api.Branch)
		for way := range uint64(4) {
			had[holdRuns(t, c, d, samples.Bits(seed*4+way, int(seed%40)), 300)]++
		}
		if again, e := fold.Run(d); e != api.OK || !reflect.DeepEqual(again, d) {
			t.Fatalf("%d: a second Run makes of\n%s:\n%s", e, told(d), told(again))
		}
	}
	if gone < 3000 || phis < 3000 || branches < 1500 || had[api.Halt] < 1000 || had[api.TrapZero] < 500 || had[api.TrapIn] < 50 || had[api.StopFuel] < 300 {
		t.Error(gone, phis, branches, had)
	}
}

// ends answers how many blocks end so.
func ends(c api.Code, end byte) int {
	n := 0
	for _, f := range c.Funs {
		for _, b := range f.Blocks {
			if b.End == end {
				n++
			}
		}
	}
	return n
}

// program answers the plain code of a text.
func program(t *testing.T, text string) api.Code {
	t.Helper()
	p, _, e := tree.Parse(text)
	if e != api.OK {
		t.Fatal(e, text)
	}
	c, _, e := lower.Program(p)
	if e != api.OK {
		t.Fatal(e, text)
	}
	c, e = ssa.Build(c)
	if e != api.OK {
		t.Fatal(e, text)
	}
	return c
}

// TestAProgram: conditions in conditions and loops, of which one way is never gone.
func TestAProgram(t *testing.T) {
	c := program(t, "fn f(n: int): int { let debug: bool = false; let k: int = 3 * 4 + 2; let i: int = 0; while i < n { if debug { print i; k = 0; } i = i + k / 7; } if k > 10 && !debug { return i; } return k; } fn main(): int { let x: int = 10 - 2 * 5; if x == 0 { print f(5); } else { print 1 / x; } return f(x + 1); }")
	holdEnd(t, c, api.Halt, nil, 6)
	d := mustRun(t, c)
	if n := Count(d, api.Div) + Count(d, api.Mul) + Count(d, api.Eq) + Count(d, api.Gt); n != 0 {
		t.Errorf("%d of what is known: %s", n, told(d))
	}
	if n := ends(d, api.Branch); n != 1 {
		t.Errorf("%d branches: %s", n, told(d))
	}
}

func FuzzRun(f *testing.F) {
	for seed := range uint64(20) {
		f.Add(seed, 12, seed*77, 40)
	}
	f.Fuzz(func(t *testing.T, seed uint64, blocks int, way uint64, n int) {
		blocks = max(1, blocks%60)
		input := samples.Bits(way, max(0, n%80))
		hold(t, samples.Plain(seed, blocks), input, 400)
		hold(t, samples.Code(seed, 0, 0), input, 400)
		if c, e := ssa.Build(samples.Ways(seed, blocks, blocks%12)); e == api.OK {
			hold(t, c, input, 400)
		}
	})
}
