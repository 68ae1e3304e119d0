// Package passes has tests alone: what is promised of all passes from code to code, layers 10 to 15, and of alloc.Split, layer 19.
package passes

import (
	"fmt"
	"testing"

	"teasel/alike"
	"teasel/alloc"
	"teasel/api"
	"teasel/calls"
	"teasel/code"
	"teasel/dead"
	"teasel/fold"
	"teasel/lower"
	"teasel/motion"
	"teasel/number"
	"teasel/reduce"
	"teasel/samples"
	"teasel/ssa"
	"teasel/tree"
)

// pass is one from plain code to plain code; all: whether it shows all variables that were shown.
type pass struct {
	name string
	run  func(c api.Code) (api.Code, api.Errno)
	all  bool
}

// passes are those that are built.
func passes() []pass {
	return []pass{
		{"fold", fold.Run, true},
		{"number", number.Run, true},
		{"dead", dead.Run, false},
		{"calls", calls.Run, true},
		{"motion", motion.Run, true},
		{"reduce", reduce.Run, true},
		{"split", alloc.Split, true},
	}
}

// told is a thing as text, not too long.
func told(x any) string {
	s := fmt.Sprintf("%+v", x)
	return s[:min(len(s), 5000)]
}

// mustRun answers what plain code becomes.
func (p pass) mustRun(t *testing.T, c api.Code) api.Code {
	t.Helper()
	d, e := p.run(c)
	if e != api.OK || !code.Plain(d) {
		t.Fatalf("%s answers %d and code that is wrong by %d, of\n%s:\n%s", p.name, e, code.Check(d), told(c), told(d))
	}
	return d
}

// holdRuns holds runs against each other; it answers how that of the code ends that was there first.
func holdRuns(t *testing.T, name string, c, d api.Code, input []int64, fuel int, all bool) byte {
	t.Helper()
	end, s := alike.Runs(c, d, input, fuel, all)
	if s != "" {
		t.Fatalf("%s: %s, of\n%s:\n%s", name, s, told(c), told(d))
	}
	return end
}

// program answers the plain code of a text.
func program(t *testing.T, text string) api.Code {
	t.Helper()
	p, _, e := tree.Parse(text)
	if e != api.OK {
		t.Fatal(e, text)
	}
	c, _, e := lower.Program(p)
	if e != api.OK {
		t.Fatal(e, text)
	}
	return build(t, c)
}

// build answers code without its variables.
func build(t *testing.T, c api.Code) api.Code {
	t.Helper()
	d, e := ssa.Build(c)
	if e != api.OK {
		t.Fatal(e, told(c))
	}
	return d
}

// TestCodeByChance: each way in which a run ends, with the state at each mark.
func TestCodeByChance(t *testing.T) {
	t.Parallel()
	for _, p := range passes() {
		had := map[byte]int{}
		for seed := range uint64(1600) {
			input := []int64{3, -1, 0, int64(seed), 7, 1, -1 << 63, 2, 5, 1, 1}[:seed%12]
			fuel := 300
			if seed%8 == 0 {
				fuel = int(seed % 53)
			}
			c := samples.Code(seed, 0, 0)
			had[holdRuns(t, p.name, c, p.mustRun(t, c), input, fuel, p.all)]++
		}
		for end := byte(api.Halt); end <= api.Wrong; end++ {
			if had[end] < 3 && end != api.StopCall {
				t.Errorf("%s: only %d of the runs end with %d", p.name, had[end], end)
			}
		}
	}
}

// TestWaysByChance: code of many blocks, that had variables, led along several ways.
func TestWaysByChance(t *testing.T) {
	t.Parallel()
	for _, p := range passes() {
		had := map[byte]int{}
		for seed := range uint64(120) {
			c := build(t, samples.Ways(seed, 1+int(seed%45), int(seed%9)))
			d := p.mustRun(t, c)
			for way := range uint64(4) {
				had[holdRuns(t, p.name, c, d, samples.Bits(seed*4+way, int(seed%60)), 400, p.all)]++
			}
		}
		if had[api.Halt] < 60 || had[api.TrapIn] < 60 || had[api.StopFuel] < 5 {
			t.Error(p.name, had)
		}
	}
}

// TestPlainCodeByChance: of few things and few numbers, so that there is much to be done.
func TestPlainCodeByChance(t *testing.T) {
	t.Parallel()
	for _, p := range passes() {
		had := map[byte]int{}
		for seed := range uint64(700) {
			c := samples.Plain(seed, 1+int(seed%30))
			d := p.mustRun(t, c)
			for way := range uint64(3) {
				had[holdRuns(t, p.name, c, d, samples.Bits(seed*4+way, int(seed%40)), 300, p.all)]++
			}
		}
		if had[api.Halt] < 500 || had[api.TrapZero] < 200 || had[api.TrapIn] < 30 || had[api.StopFuel] < 100 {
			t.Error(p.name, had)
		}
	}
}

// TestCallsByChance: code of functions that call small ones.
func TestCallsByChance(t *testing.T) {
	t.Parallel()
	for _, p := range passes() {
		had := map[byte]int{}
		for seed := range uint64(700) {
			c := samples.Calls(seed, 1+int(seed%9))
			d := p.mustRun(t, c)
			for way := range uint64(3) {
				had[holdRuns(t, p.name, c, d, samples.Bits(seed*4+way, int(seed%40)), 300, p.all)]++
			}
		}
		if had[api.Halt] < 300 || had[api.TrapZero] < 100 || had[api.TrapIn] < 30 || had[api.StopFuel] < 100 {
			t.Error(p.name, had)
		}
	}
}

// TestLoopsByChance: code that turns round and counts.
func TestLoopsByChance(t *testing.T) {
	t.Parallel()
	for _, p := range passes() {
		had := map[byte]int{}
		for seed := range uint64(500) {
			c := samples.Loops(seed, 1+int(seed%25))
			d := p.mustRun(t, c)
			for way := range uint64(3) {
				had[holdRuns(t, p.name, c, d, samples.Bits(seed*4+way, int(seed%40)), 300, p.all)]++
			}
		}
		if had[api.Halt] < 500 || had[api.TrapZero] < 10 || had[api.TrapIn] < 50 || had[api.StopFuel] < 100 {
			t.Error(p.name, had)
		}
	}
}

// TestProgramsByChance: as they are lowered.
func TestProgramsByChance(t *testing.T) {
	t.Parallel()
	for _, p := range passes() {
		for seed := range uint64(300) {
			c := program(t, samples.Text(seed, 0))
			holdRuns(t, p.name, c, p.mustRun(t, c), []int64{3, -1, 0, int64(seed), 7, 1, 2, 5}[:seed%9], 3000, p.all)
		}
	}
}

// TestRunsThatEndOtherwise: each trap, and what stops runs.
func TestRunsThatEndOtherwise(t *testing.T) {
	t.Parallel()
	for text, end := range map[string]byte{
		"fn main(): int { let x: int = 1; let y: int = x - 1; print x; print x / y; return 0; }":                                  api.TrapZero,
		"fn main(): int { let x: int = read(); print 12 % (x - 4); return 0; }":                                                   api.TrapZero,
		"fn main(): int { let x: int = read(); let y: int = 12 / (x - 4); return 0; }":                                            api.TrapZero,
		"fn main(): int { let a: arr[3]; let x: int = 1; print a[x + 1]; a[x + 2] = 5; return 0; }":                               api.TrapCell,
		"fn main(): int { let a: arr[3]; let x: int = read(); print a[x - 2]; return a[x - 5]; }":                                 api.TrapCell,
		"fn main(): int { let x: int = 1; print x; while x < 2 { print read(); } return 0; }":                                     api.TrapIn,
		"fn main(): int { let x: int = 1; print x; while x < 2 { print x + 1; } return 0; }":                                      api.StopFuel,
		"fn f(n: int) { let a: arr[256]; let x: int = 2; print x + 1; f(n + x); return; } fn main(): int { f(1); return 0; }":     api.StopHeap,
		"fn f(n: int): int { let x: int = 2; print x + 1; if x > 1 { return x * 3; } return n; } fn main(): int { return f(1); }": api.Halt,
	} {
		for _, p := range passes() {
			c := program(t, text)
			if got := holdRuns(t, p.name, c, p.mustRun(t, c), []int64{4, 5}, 500, p.all); got != end {
				t.Errorf("%s: %d, not %d: %s", p.name, got, end, text)
			}
		}
	}
}

// TestPassesInTurn: several, one behind the other, in any order.
func TestPassesInTurn(t *testing.T) {
	t.Parallel()
	l := passes()
	for seed := range uint64(600) {
		c := samples.Plain(seed, 1+int(seed%30))
		switch seed % 4 {
		case 0:
			c = build(t, samples.Ways(seed, 1+int(seed%30), 5))
		case 1:
			c = samples.Calls(seed, 1+int(seed%9))
		case 2:
			c = samples.Loops(seed, 1+int(seed%20))
		}
		d, name, all := c, "", true
		for k := range 5 {
			p := l[int(seed>>(2*k))%len(l)]
			d = p.mustRun(t, d)
			name += p.name + " "
			all = all && p.all
		}
		for way := range uint64(2) {
			holdRuns(t, name, c, d, samples.Bits(seed*4+way, int(seed%40)), 300, all)
		}
	}
}

func FuzzPasses(f *testing.F) {
	for seed := range uint64(20) {
		f.Add(seed, 12, seed*77, 40)
	}
	f.Fuzz(func(t *testing.T, seed uint64, blocks int, way uint64, n int) {
		blocks = max(1, blocks%60)
		input := samples.Bits(way, max(0, n%80))
		for _, c := range []api.Code{samples.Plain(seed, blocks), samples.Code(seed, 0, 0), build(t, samples.Ways(seed, blocks, blocks%12)), samples.Calls(seed, blocks), samples.Loops(seed, blocks)} {
			for _, p := range passes() {
				holdRuns(t, p.name, c, p.mustRun(t, c), input, 400, p.all)
			}
		}
	})
}
