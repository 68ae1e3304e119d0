package live_test

import (
	"testing"

	"teasel/api"
	"teasel/code"
	"teasel/live"
	"teasel/lower"
	"teasel/samples"
	"teasel/ssa"
	"teasel/tree"
)

// build answers code without its variables.
func build(t *testing.T, c api.Code) api.Code {
	t.Helper()
	d, e := ssa.Build(c)
	if e != api.OK {
		t.Fatal(e, told(c))
	}
	return d
}

// TestCodeByChance: of all instructions, of many ways, of few things, of calls, and of loops.
func TestCodeByChance(t *testing.T) {
	t.Parallel()
	for seed := range uint64(400) {
		blocks := 1 + int(seed%14)
		wantOracle(t, samples.Code(seed, 0, 0))
		wantOracle(t, samples.Plain(seed, blocks))
		wantOracle(t, samples.Calls(seed, 1+int(seed%5)))
		wantOracle(t, samples.Loops(seed, blocks))
		if seed%4 == 0 {
			wantOracle(t, build(t, samples.Ways(seed, blocks, int(seed%7))))
		}
	}
}

// TestCodeOfManyValues: more than 64 of them, and values that aren't made ahead of others that are.
func TestCodeOfManyValues(t *testing.T) {
	t.Parallel()
	most := 0
	for seed := range uint64(8) {
		c := samples.Loops(seed, 30)
		wantOracle(t, c)
		for fn := range c.Funs {
			l, _ := live.Clashes(c, fn, true)
			for _, p := range l {
				most = max(most, p[1])
			}
		}
	}
	if most < 192 {
		t.Error("the greatest value that clashes is", most)
	}
}

// TestProgramsByChance: as they are lowered.
func TestProgramsByChance(t *testing.T) {
	t.Parallel()
	for seed := range uint64(60) {
		p, _, e := tree.Parse(samples.Text(seed, 0))
		if e != api.OK {
			t.Fatal(e)
		}
		c, _, e := lower.Program(p)
		if e != api.OK {
			t.Fatal(e)
		}
		if d := build(t, c); code.Size(d) < 150 {
			wantOracle(t, d)
		}
	}
}

func FuzzLive(f *testing.F) {
	for seed := range uint64(20) {
		f.Add(seed, 9)
	}
	f.Fuzz(func(t *testing.T, seed uint64, blocks int) {
		blocks = max(1, blocks%15)
		for _, c := range []api.Code{samples.Code(seed, 0, 0), samples.Plain(seed, blocks), samples.Calls(seed, blocks), samples.Loops(seed, blocks)} {
			wantOracle(t, c)
		}
	})
}
