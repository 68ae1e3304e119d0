package reduce_test

import (
	"math"
	"math/rand/v2"
	"reflect"
	"testing"

	"teasel/api"
	"teasel/lower"
	. "teasel/parts"
	"teasel/reduce"
	"teasel/samples"
	"teasel/ssa"
	"teasel/trace"
	"teasel/tree"
)

// writer writes code of one function, of loops in loops that count.
type writer struct {
	*rand.Rand
	blocks  []api.Block
	values  int
	numbers []int // values that are numbers, and are made ahead of where is written
	others  []int // values of all kinds that are
}

func (w *writer) begin() int {
	w.blocks = append(w.blocks, api.Block{})
	return len(w.blocks) - 1
}

// value lays an instruction at the end of the last block.
func (w *writer) value(op byte, args ...int) int {
	w.values++
	x := Inst(op, w.values, args...)
	b := &w.blocks[len(w.blocks)-1]
	if op == api.IConst {
		x.Imm = nums(0, 1, 1, -1, 2, 3, 12, -7, 62, 63, 64, 65, -1, -64, math.MaxInt64, math.MinInt64, 1<<40+1)[w.IntN(17)]
		w.numbers = append(w.numbers, x.Dst)
	}
	b.Insts = append(b.Insts, x)
	w.others = append(w.others, x.Dst)
	return x.Dst
}

func (w *writer) one(l []int) int {
	if len(l) > 6 && w.IntN(2) == 0 {
		l = l[len(l)-6:]
	}
	return l[w.IntN(len(l))]
}

// some does a few things, mostly products of late values and numbers.
func (w *writer) some(phis []int) {
	for range w.IntN(5) {
		v, n := w.one(w.others), w.one(w.numbers)
		if len(phis) > 0 && w.IntN(3) > 0 {
			v = w.one(phis)
		}
		switch w.IntN(9) {
		case 0:
			w.value(api.IConst)
		case 1, 2:
			w.value(api.Mul, v, n)
		case 3, 4:
			w.value(api.Mul, n, v)
		case 5:
			w.value(api.Shl, v, n)
		case 6:
			w.value(api.Add+byte(w.IntN(2)), v, w.one(w.others))
		default:
			b := &w.blocks[len(w.blocks)-1]
			known := []api.Dbg{IsValue(0, v, 1, 0), IsValue(1, w.one(w.others), 3, w.Int64()), IsValue(2, w.one(w.others), 1, 1), IsNumber(3, 6)}
			b.Insts = append(b.Insts, Mark(known...), Show(w.one(w.others)))
		}
	}
}

// loop writes one, and those in it; it begins where the last block is open, and ends in one that is open.
func (w *writer) loop(deep int) {
	from := []int{len(w.blocks) - 1}
	if w.IntN(4) == 0 {
		b := &w.blocks[from[0]]
		*b = Branch(w.value(api.IRead), from[0]+1, from[0]+2, b.Insts...)
		from = []int{w.begin(), w.begin()}
	}
	var phis []api.Inst
	var counts []int
	for range 1 + w.IntN(3) {
		w.values++
		x := Phi(w.values)
		for range from {
			x.Args = append(x.Args, w.one(w.others))
		}
		phis, counts = append(phis, x), append(counts, w.values)
	}
	head := w.begin()
	for _, i := range from {
		w.blocks[i].End, w.blocks[i].To = api.GoTo, head
	}
	w.others = append(w.others, counts...)
	w.some(counts)
	for range w.IntN(3) {
		if deep > 0 {
			w.loop(deep - 1)
		}
		w.some(counts)
	}
	for i, x := range phis {
		phis[i].Args = append(x.Args, w.step(x.Dst))
	}
	w.blocks[head].Phis = phis
	end := w.value(api.IRead)
	latch := len(w.blocks) - 1
	w.blocks[latch] = api.Block{Phis: w.blocks[latch].Phis, Insts: w.blocks[latch].Insts, End: api.Branch, Arg: end, To: head, Else: w.begin()}
}

// step goes on from a value, mostly so that it counts.
func (w *writer) step(v int) int {
	n := w.one(w.numbers)
	switch w.IntN(8) {
	case 0, 1, 2:
		return w.value(api.Add, v, n)
	case 3, 4:
		return w.value(api.Add, n, v)
	case 5:
		return w.value(api.Sub, n, v)
	case 6:
		return w.one(w.others)
	}
	return w.value(api.Sub, v, n)
}

// turns answers the code that a writer writes.
func turns(seed uint64) api.Code {
	w := &writer{Rand: rand.New(rand.NewPCG(seed, 3))}
	w.begin()
	w.value(api.IRead)
	w.value(api.IConst)
	w.value(api.IConst)
	for range 2 {
		w.some(nil)
		w.loop(int(seed % 4))
	}
	w.some(nil)
	w.blocks[len(w.blocks)-1].End = api.RetNone
	f := Fun(0, w.blocks...)
	f.Vals = w.values + 1
	return Program(f)
}

// TestTurnsByChance: nests of loops, whose counters begin with those of outer ones, or products of them; with products of products.
func TestTurnsByChance(t *testing.T) {
	t.Parallel()
	had := map[byte]int{}
	before, gone, sums := 0, 0, 0
	for seed := range uint64(1200) {
		c := turns(seed)
		d := mustRun(t, c)
		before += counted(c)
		gone += Count(c, api.Mul) + Count(c, api.Shl) - Count(d, api.Mul) - Count(d, api.Shl)
		sums += Count(d, api.Add) - Count(c, api.Add)
		for way := range uint64(2) {
			had[holdRuns(t, c, d, append(nums(int64(seed)*77), samples.Bits(seed*4+way, int(seed%90))...), 600)]++
		}
		if again, e := reduce.Run(d); e != api.OK || !reflect.DeepEqual(again, d) {
			t.Fatalf("%d: a second Run makes of\n%s:\n%s", e, told(d), told(again))
		}
	}
	if before < 4500 || gone < 2500 || sums < 5000 || had[api.Halt] < 1200 || had[api.TrapIn] < 400 || had[api.StopFuel] < 30 {
		t.Error(before, gone, sums, had)
	}
}

// counted answers how many products of counters code has.
func counted(c api.Code) int {
	n := 0
	for _, f := range c.Funs {
		n += len(products(f))
	}
	return n
}

// TestLoopsByChance: loops in loops, that count up and down, led along several ways. All is done at once: a second Run finds nothing more.
func TestLoopsByChance(t *testing.T) {
	t.Parallel()
	had := map[byte]int{}
	before, gone, sums := 0, 0, 0
	for seed := range uint64(500) {
		c := samples.Loops(seed, 1+int(seed%30))
		d := mustRun(t, c)
		before += counted(c)
		gone += Count(c, api.Mul) + Count(c, api.Shl) - Count(d, api.Mul) - Count(d, api.Shl)
		sums += Count(d, api.Add) - Count(c, api.Add)
		for way := range uint64(4) {
			had[holdRuns(t, c, d, samples.Bits(seed*4+way, int(seed%60)), 400)]++
		}
		if again, e := reduce.Run(d); e != api.OK || !reflect.DeepEqual(again, d) {
			t.Fatalf("%d: a second Run makes of\n%s:\n%s", e, told(d), told(again))
		}
	}
	if before < 200 || gone < 150 || sums < 200 || had[api.Halt] < 800 || had[api.TrapZero] < 20 || had[api.TrapIn] < 80 || had[api.StopFuel] < 400 {
		t.Error(before, gone, sums, had)
	}
}

// program answers the plain code of a text.
func program(t *testing.T, text string) api.Code {
	t.Helper()
	p, _, e := tree.Parse(text)
	if e != api.OK {
		t.Fatal(e, text)
	}
	c, _, e := lower.Program(p)
	if e != api.OK {
		t.Fatal(e, text)
	}
	c, e = ssa.Build(c)
	if e != api.OK {
		t.Fatal(e, text)
	}
	return c
}

// TestCodeByChance: of all kinds.
func TestCodeByChance(t *testing.T) {
	t.Parallel()
	had := map[byte]int{}
	for seed := range uint64(1000) {
		had[hold(t, samples.Code(seed, 0, 0), nums(3, -1, 0, int64(seed), 7, 1, 2, 5)[:seed%9], 300)]++
		hold(t, samples.Plain(seed, 1+int(seed%40)), samples.Bits(seed, 30), 300)
	}
	for end := byte(api.Halt); end <= api.Wrong; end++ {
		if had[end] < 3 && end != api.StopCall {
			t.Errorf("only %d of the runs end with %d", had[end], end)
		}
	}
}

// TestAProgram: with products of counters of several loops, up and down.
func TestAProgram(t *testing.T) {
	t.Parallel()
	c := program(t, "fn main(): int { let n: int = read(); let s: int = 0; let i: int = 0; while i < n { let j: int = i; while j > 0 - n { s = s + j * 12 + i * 5; j = j - 2; } s = s ^ (i << 3); i = i + 1; } print s; return s; }")
	holdEnd(t, c, api.Halt, nums(3), 8)
	holdEnd(t, c, api.Halt, nums(0), 0)
	d := mustRun(t, c)
	x, _ := trace.Run(c, nums(20), 99999)
	y, e := trace.Run(d, nums(20), 99999)
	// Each product is a sum now: so little more is done, ahead of the loops.
	if e != api.OK || y.End != api.Halt || !reflect.DeepEqual(x.Outs, y.Outs) || y.Steps > x.Steps+100 {
		t.Error(x.Steps, y.Steps)
	}
	if n := counted(c); n != 3 {
		t.Error(n)
	}
}

// TestProgramsByChance: as they are lowered.
func TestProgramsByChance(t *testing.T) {
	t.Parallel()
	for seed := range uint64(200) {
		hold(t, program(t, samples.Text(seed, 0)), nums(3, -1, 0, int64(seed), 7, 1, 2, 5)[:seed%9], 2000)
	}
}

func FuzzRun(f *testing.F) {
	for seed := range uint64(20) {
		f.Add(seed, 12, seed*77, 40)
	}
	f.Fuzz(func(t *testing.T, seed uint64, blocks int, way uint64, n int) {
		blocks = max(1, blocks%60)
		input := samples.Bits(way, max(0, n%80))
		hold(t, turns(seed), append(nums(int64(way)), input...), 600)
		hold(t, samples.Loops(seed, blocks), input, 400)
		hold(t, samples.Plain(seed, blocks), input, 400)
		hold(t, samples.Code(seed, 0, 0), input, 400)
		if c, e := ssa.Build(samples.Ways(seed, blocks, blocks%12)); e == api.OK {
			hold(t, c, input, 400)
		}
	})
}
