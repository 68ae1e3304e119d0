package alloc_test

import (
	"testing"

	"teasel/alloc"
	"teasel/api"
	"teasel/live"
	"teasel/lower"
	"teasel/samples"
	"teasel/ssa"
	"teasel/tree"
)

// build answers code without its variables.
func build(t *testing.T, c api.Code) api.Code {
	t.Helper()
	d, e := ssa.Build(c)
	if e != api.OK {
		t.Fatal(e, told(c))
	}
	return d
}

// program answers the plain code of a text.
func program(t *testing.T, text string) api.Code {
	t.Helper()
	p, _, e := tree.Parse(text)
	if e != api.OK {
		t.Fatal(e, text)
	}
	c, _, e := lower.Program(p)
	if e != api.OK {
		t.Fatal(e, text)
	}
	return build(t, c)
}

// byChance answers codes of all instructions, of many ways, of few things, of calls, of loops, and of rows.
func byChance(t *testing.T, seed uint64) []api.Code {
	t.Helper()
	blocks := 1 + int(seed%25)
	return []api.Code{samples.Code(seed, 0, 0), samples.Plain(seed, blocks), samples.Calls(seed, 1+int(seed%9)), samples.Loops(seed, blocks), samples.Rows(seed), build(t, samples.Ways(seed, blocks, int(seed%9)))}
}

// TestSplitByChance: each way in which a run ends, with the state at each mark; code that is parted stays as it is.
func TestSplitByChance(t *testing.T) {
	t.Parallel()
	had, parted := map[byte]int{}, 0
	for seed := range uint64(250) {
		for _, c := range byChance(t, seed) {
			d := mustSplit(t, c)
			for fn, f := range d.Funs {
				parted += len(f.Blocks) - len(c.Funs[fn].Blocks)
			}
			for way := range uint64(2) {
				had[holdRuns(t, c, d, samples.Bits(seed*2+way, int(seed%40)), 300, true)]++
			}
			for fn, f := range mustSplit(t, d).Funs {
				if len(f.Blocks) != len(d.Funs[fn].Blocks) {
					t.Fatalf("what is parted is parted again: %s", told(d))
				}
			}
		}
	}
	if parted < 3000 || had[api.Halt] < 500 || had[api.TrapZero] < 50 || had[api.TrapIn] < 100 || had[api.TrapCell] < 5 || had[api.StopFuel] < 100 {
		t.Error(parted, had)
	}
}

// TestPlacesByChance: with and without slots, of code that is parted and of code that isn't.
func TestPlacesByChance(t *testing.T) {
	t.Parallel()
	slots, full := 0, 0
	for seed := range uint64(250) {
		for _, c := range byChance(t, seed) {
			if seed%2 == 0 {
				c = mustSplit(t, c)
			}
			for fn := range c.Funs {
				for _, all := range []bool{false, true} {
					l := mustPlace(t, c, fn, all)
					if n, _ := count(l, alloc.Slot); n > 0 {
						slots++
					} else if _, n := count(l, alloc.Register); n == room {
						full++
					}
				}
			}
		}
	}
	if slots < 300 || full < 200 {
		t.Error(slots, full)
	}
}

// TestWhereFewClash: code of which each value clashes with about as many as there are registers but one: with no more, all stand in them.
func TestWhereFewClash(t *testing.T) {
	t.Parallel()
	had := map[int]int{}
	for seed := range uint64(600) {
		for _, c := range []api.Code{samples.Loops(seed, 4), samples.Rows(seed)} {
			for fn, f := range c.Funs {
				clashes, most := make([]int, f.Vals), 0
				pairs, _ := live.Clashes(c, fn, true)
				for _, p := range pairs {
					for _, v := range p {
						clashes[v]++
						most = max(most, clashes[v])
					}
				}
				mustPlace(t, c, fn, true)
				had[most]++
			}
		}
	}
	if had[room-2] < 20 || had[room-1] < 20 || had[room] < 20 {
		t.Error(had)
	}
}

// TestRecoversByChance: what the chapter asks for is told, with the numbers that it had.
func TestRecoversByChance(t *testing.T) {
	t.Parallel()
	var all [3]int
	for seed := range uint64(150) {
		for _, c := range byChance(t, seed) {
			for i, n := range holdRecovers(t, c, samples.Bits(seed, int(seed%40)), 300) {
				all[i] += n
			}
		}
	}
	if all[0] < 2000 || all[1] < 500 || all[2] < 2000 {
		t.Error(all)
	}
}

// TestRowsByChance: most of what isn't live any more is told.
func TestRowsByChance(t *testing.T) {
	t.Parallel()
	var all [3]int
	for seed := range uint64(1000) {
		for i, n := range holdRecovers(t, samples.Rows(seed), numbers(int64(seed), -1<<63, 1, 1<<63-1, 5, 6, 7, 8, 9), 99) {
			all[i] += n
		}
	}
	if all[0] < 5000 || all[1] < 2000 || all[2] < 2000 {
		t.Error(all)
	}
}

// TestProgramsByChance: as they are lowered.
func TestProgramsByChance(t *testing.T) {
	t.Parallel()
	for seed := range uint64(60) {
		c := program(t, samples.Text(seed, 0))
		input := numbers(3, -1, 0, int64(seed), 7, 1, 2, 5)[:seed%9]
		holdSplit(t, c, input, 2000)
		for fn := range c.Funs {
			mustPlace(t, c, fn, seed%2 == 0)
		}
		if seed < 20 {
			holdRecovers(t, c, input, 2000)
		}
	}
}

func FuzzAlloc(f *testing.F) {
	for seed := range uint64(20) {
		f.Add(seed, seed*77, 40)
	}
	f.Fuzz(func(t *testing.T, seed, way uint64, n int) {
		input := samples.Bits(way, max(0, n%80))
		for _, c := range byChance(t, seed) {
			holdSplit(t, c, input, 300)
			for fn := range c.Funs {
				mustPlace(t, c, fn, false)
				mustPlace(t, c, fn, true)
			}
			holdRecovers(t, c, input, 300)
		}
	})
}
