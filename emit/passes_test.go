package emit_test

import (
	"reflect"
	"testing"

	"teasel/alike"
	"teasel/api"
	"teasel/calls"
	"teasel/code"
	"teasel/dead"
	"teasel/emit"
	"teasel/fold"
	"teasel/lower"
	"teasel/motion"
	"teasel/number"
	. "teasel/parts"
	"teasel/reduce"
	"teasel/samples"
	"teasel/ssa"
	"teasel/tree"
)

// mustPass answers what passes make of plain code, which is plain.
func mustPass(t *testing.T, c api.Code, opt byte) api.Code {
	t.Helper()
	d, e := emit.Passes(c, opt)
	if e != api.OK || !code.Plain(d) {
		t.Fatalf("%d, %d, with %d, of\n%s", e, code.Check(d), opt, told(c))
	}
	return d
}

// program answers the plain code of a text.
func program(t *testing.T, text string) api.Code {
	t.Helper()
	p, at, e := tree.Parse(text)
	if e != api.OK {
		t.Fatal(at, e, text)
	}
	c, at, e := lower.Program(p)
	if e != api.OK {
		t.Fatal(at, e, text)
	}
	c, e = ssa.Build(c)
	if e != api.OK {
		t.Fatal(e, text)
	}
	return c
}

// plainCode answers code of one of several kinds, by chance.
func plainCode(t *testing.T, seed uint64) api.Code {
	switch seed % 6 {
	case 0:
		return samples.Code(seed, 0, 0)
	case 1:
		return samples.Plain(seed, 1+int(seed%30))
	case 2:
		return samples.Calls(seed, 1+int(seed%9))
	case 3:
		return samples.Loops(seed, 1+int(seed%20))
	case 4:
		return samples.Rows(seed)
	}
	return program(t, samples.Text(seed, 0))
}

// TestNoPasses: it is as it was, twice too, whatever stands in it that isn't looked at.
func TestNoPasses(t *testing.T) {
	t.Parallel()
	odd := Main(Branch(0, 1, 2, Read(0), At(9, Inst(api.IPrint, -1, 0), IsNumber(-3, 4))), Ends(), Goes(3), Answers(0))
	odd.Funs[0].Vars = 7
	odd.Funs[0].Blocks[0].Insts[0].Imm = 99
	odd.Funs[0].Blocks[1].Arg, odd.Funs[0].Blocks[1].To = 77, -4
	for seed := range uint64(300) {
		c := odd
		if seed > 0 {
			c = plainCode(t, seed)
		}
		d := mustPass(t, c, 0)
		if !reflect.DeepEqual(d, c) || !reflect.DeepEqual(mustPass(t, d, 0), c) {
			t.Fatal("other code, of", told(c))
		}
	}
}

// TestPassesByChance: each set of passes does what the code did; without dead, all is shown that was.
func TestPassesByChance(t *testing.T) {
	t.Parallel()
	had := map[byte]int{}
	for seed := range uint64(1920) {
		opt := byte(seed % 64)
		c := plainCode(t, seed/64*7+seed)
		d := mustPass(t, c, opt)
		for way := range uint64(2) {
			input := append([]int64{3, -1, 0, int64(seed), 7}[:seed%6%5], samples.Bits(seed*2+way, int(seed%40))...)
			end, s := alike.Runs(c, d, input, 400, opt&32 == 0)
			if s != "" {
				t.Fatalf("%s, with %d, of\n%s:\n%s", s, opt, told(c), told(d))
			}
			had[end]++
		}
	}
	for end := byte(api.Halt); end <= api.Wrong; end++ {
		if had[end] < 3 && end != api.StopCall && end != api.StopHeap {
			t.Error(end, had)
		}
	}
}

// TestPassesTwice: what they made is code for them, too.
func TestPassesTwice(t *testing.T) {
	t.Parallel()
	for seed := range uint64(400) {
		c := plainCode(t, seed)
		opt := byte(seed*7) % 64
		d := mustPass(t, mustPass(t, c, opt), byte(seed*11)%64)
		if _, s := alike.Runs(c, mustPass(t, d, emit.All), samples.Bits(seed, 30), 300, false); s != "" {
			t.Fatalf("%s, of\n%s", s, told(c))
		}
	}
}

// TestEachBit: just its pass is done.
func TestEachBit(t *testing.T) {
	t.Parallel()
	of := map[byte]func(c api.Code) (api.Code, api.Errno){1: calls.Run, 2: fold.Run, 4: number.Run, 8: motion.Run, 16: reduce.Run, 32: dead.Run}
	changed := map[byte]int{}
	for seed := range uint64(300) {
		c := plainCode(t, seed)
		for bit, run := range of {
			d := mustPass(t, c, bit)
			want, e := run(c)
			if e != api.OK {
				t.Fatal(e)
			}
			// A pass that is done twice changes nothing the second time, but that number may see more.
			if again, _ := run(want); !reflect.DeepEqual(d, want) && !reflect.DeepEqual(d, again) && bit != 4 {
				t.Fatalf("with %d other code, of\n%s", bit, told(c))
			}
			if code.Size(d) != code.Size(c) {
				changed[bit]++
			}
		}
	}
	for bit := range of {
		if changed[bit] < 20 {
			t.Error(bit, changed[bit])
		}
	}
}

// TestEachPassIsDone: of a program with something for each of them nothing is left that its pass takes away; what isn't asked for stays.
func TestEachPassIsDone(t *testing.T) {
	t.Parallel()
	c := program(t, `fn f(x: int): int { return x + 1; }
fn main(): int {
	let n: int = read();
	let three: int = 1 + 2;
	let i: int = 0;
	let gone: int = n * n;
	while i < n {
		print f(i) + n * 7;
		print n * 7;
		print i * 12;
		i = i + 1;
	}
	return three;
}`)
	for opt := range byte(64) {
		d := mustPass(t, c, opt)
		main := d.Funs[d.Main]
		if inner := Count(api.Code{Funs: []api.Fun{main}}, api.ICall) == 0; inner != (opt&1 > 0) {
			t.Error("calls", opt)
		}
		if opt == 0 || opt == emit.All {
			if _, s := alike.Runs(c, d, nums(3), 500, opt == 0); s != "" {
				t.Error(s)
			}
		}
		muls := Count(api.Code{Funs: []api.Fun{main}}, api.Mul)
		want := 4
		if opt&4 > 0 {
			want-- // n * 7
		}
		if opt&32 > 0 {
			want-- // n * n
		}
		if opt&16 > 0 {
			want-- // i * 12
		}
		if muls > want || muls < want-1 {
			t.Error("products", opt, muls, want)
		}
	}
}

// left is a loop that is left at once, in which so many calls are that each of them brings much that is the same each time. Its run takes four steps.
func left(n int) api.Code {
	row := []api.Inst{Param(0, 0)}
	for v := range 15 {
		row = append(row, Inst(api.Add, 1+v, v, 0))
	}
	c := Program(
		Fun(0, Goes(1, Inst(api.ITop, 0)), Branch(0, 2, 3), Goes(1), Ends()),
		Fun(1, Answers(15, row...)))
	b := &c.Funs[0].Blocks[2]
	for k := range n {
		b.Insts = append(b.Insts, Number(1+2*k, int64(k)), Call(2+2*k, 1, 1+2*k))
	}
	c.Funs[0].Vals = 1 + 2*n
	return c
}

// TestLoopsThatAreLeftAtOnce: what is done ahead of them doesn't make a short run too long, however much their calls bring.
func TestLoopsThatAreLeftAtOnce(t *testing.T) {
	t.Parallel()
	for _, n := range []int{1, 3, 10, 40, 90} {
		c := left(n)
		for opt := range byte(64) {
			d := mustPass(t, c, opt)
			if end, s := alike.Runs(c, d, nil, 100, opt&32 == 0); s != "" || end != api.Halt {
				t.Errorf("%d calls, with %d: %d, %s", n, opt, end, s)
			}
			if Count(api.Code{Funs: d.Funs[:1]}, api.ICall) > 0 && opt&1 > 0 {
				t.Errorf("%d calls, with %d: there are calls", n, opt)
			}
		}
	}
}

// TestSmallCodeIsNeverRefused: of 500 instructions, phis and blocks, with 500 values; with each set of passes.
func TestSmallCodeIsNeverRefused(t *testing.T) {
	t.Parallel()
	products := Main(Goes(1, Read(0), Number(1, 1)), Behind(Branch(2, 1, 2, Inst(api.Add, 3, 2, 1)), Phi(2, 0, 3)), Ends(Show(2)))
	for v := range 485 {
		b := &products.Funs[0].Blocks[1]
		if v%2 == 0 {
			b.Insts = append(b.Insts, Number(4+v, int64(v+2)))
		} else {
			b.Insts = append(b.Insts, Inst(api.Mul, 4+v, 2, 3+v))
		}
	}
	products.Funs[0].Vals = 500
	for _, c := range []api.Code{products, left(90), joined(250, 238, 20, 3), joined(100, 388, 20, 3), joined(400, 88, 400, 3)} {
		for i := range c.Funs {
			c.Funs[i].Vals = min(c.Funs[i].Vals, 500)
		}
		if n := size(c); n > 500 || !code.Plain(c) {
			t.Fatal(n, code.Check(c))
		}
		for opt := range byte(64) {
			d := mustPass(t, c, opt)
			if opt%9 == 0 {
				mustImage(t, d, opt%2 == 0)
			}
		}
		if _, s := alike.Runs(c, mustPass(t, c, emit.All), lead()[2], 300, false); s != "" {
			t.Error(s)
		}
	}
}

// TestGreatCode: passes that would make too much of it aren't done.
func TestGreatCode(t *testing.T) {
	t.Parallel()
	var l []api.Inst
	for v := range api.MaxCode - 10 {
		l = append(l, Number(v, int64(v%50)))
	}
	c := Main(Ends(append(l, Mark(), Show(7))...))
	c.Funs[0].Vals = api.MaxCode
	for _, opt := range []byte{1, 2, 4, 8, 16, 32, emit.All} {
		if d := mustPass(t, c, opt); code.Size(d) > code.Size(c) {
			t.Error(opt, code.Size(d))
		}
	}
	ways := joined(1500, 1500, 0, 1)
	ways.Funs[0].Vals = api.MaxVals
	for bit := range 6 {
		mustPass(t, ways, 1<<bit)
	}
}

// TestTheSameAnswerEachTime: of each set of passes.
func TestTheSameAnswerEachTime(t *testing.T) {
	t.Parallel()
	for seed := range uint64(30) {
		c := plainCode(t, seed)
		for opt := range byte(64) {
			if !reflect.DeepEqual(mustPass(t, c, opt), mustPass(t, c, opt)) {
				t.Fatal("two answers to one question", opt, told(c))
			}
		}
	}
}
