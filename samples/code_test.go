package samples_test

import (
	"reflect"
	"testing"

	"teasel/api"
	"teasel/code"
	"teasel/flow"
	"teasel/samples"
)

func TestCodeIsRightWithoutFaults(t *testing.T) {
	ops := map[byte]bool{}
	loops := 0
	for seed := range uint64(3000) {
		vars := int(seed % 4)
		c := samples.Code(seed, vars, 0)
		if e := code.Check(c); e != api.OK {
			t.Fatalf("%d: %d of %+v", seed, e, c)
		}
		if vars == 0 && !code.Plain(c) {
			t.Fatal("it has variables", seed)
		}
		for _, f := range c.Funs {
			for i, b := range f.Blocks {
				if b.End == api.GoTo && b.To <= i {
					loops++
				}
				for _, x := range append(b.Phis, b.Insts...) {
					ops[x.Op] = true
				}
			}
		}
	}
	for op := range byte(50) {
		if _, _, is := code.Shape(op); is && !ops[op] {
			t.Error("no code has the Op", op)
		}
	}
	if loops < 500 {
		t.Error("code has few loops", loops)
	}
}

// TestWays: they are right, some have many blocks, most of which have variables, and of many runs ways lead back.
func TestWays(t *testing.T) {
	most, uses, back := 0, 0, 0
	for seed := range uint64(300) {
		c := samples.Ways(seed, 40, 6)
		if e := code.Check(c); e != api.OK {
			t.Fatalf("%d: %d of %+v", seed, e, c)
		}
		for _, f := range c.Funs {
			most = max(most, len(f.Blocks))
			for i, b := range f.Blocks {
				if b.End == api.GoTo && b.To <= i || b.End == api.Branch && min(b.To, b.Else) <= i {
					back++
				}
				for _, x := range b.Insts {
					if x.Op == api.ISet {
						uses++
						break
					}
				}
			}
		}
	}
	if most != 40 || uses < 5000 || back < 500 {
		t.Error(most, uses, back)
	}
}

// TestPlain: it is plain, and makes few numbers; most of what it does makes values from others, and some branches go by what isn't read.
func TestPlain(t *testing.T) {
	phis, knowing, ops := 0, 0, map[byte]int{}
	for seed := range uint64(300) {
		c := samples.Plain(seed, 30)
		if !code.Plain(c) {
			t.Fatalf("%d: %d of %+v", seed, code.Check(c), c)
		}
		for _, f := range c.Funs {
			for _, b := range f.Blocks {
				phis += len(b.Phis)
				if b.End == api.Branch && (len(b.Insts) == 0 || b.Insts[len(b.Insts)-1].Dst != b.Arg) {
					knowing++
				}
				for _, x := range b.Insts {
					ops[x.Op]++
					if x.Op == api.IConst && (x.Imm < 0 || x.Imm > 2) {
						t.Fatal("a number of its own", seed, x.Imm)
					}
				}
			}
		}
	}
	for _, op := range []byte{api.Add, api.Mul, api.Sub, api.Xor, api.Lt, api.Eq, api.Neg, api.Bang, api.Div, api.Rem, api.ICopy, api.IConst, api.IMark, api.IPrint, api.IRead, api.ICall} {
		if ops[op] < 100 {
			t.Error("too few of the Op", op, ops[op])
		}
	}
	if phis < 5000 || knowing < 1000 {
		t.Error(phis, knowing)
	}
}

// TestCalls: it is plain; small functions of several blocks that call none are called often, and parameters are asked for behind calls, too.
func TestCalls(t *testing.T) {
	all, small, several, late := 0, 0, 0, 0
	for seed := range uint64(500) {
		c := samples.Calls(seed, 8)
		if !code.Plain(c) {
			t.Fatalf("%d: %d of %+v", seed, code.Check(c), c)
		}
		for _, f := range c.Funs {
			for _, b := range f.Blocks {
				called := false
				for _, x := range b.Insts {
					if x.Op == api.IParam && called {
						late++
					}
					if x.Op != api.ICall {
						continue
					}
					called = true
					all++
					g := c.Funs[x.Imm]
					if n := code.Size(api.Code{Funs: []api.Fun{g}}); n > 16 || callsAny(g) {
						continue
					}
					small++
					if len(g.Blocks) > 1 {
						several++
					}
				}
			}
		}
	}
	if all < 4000 || small < 3000 || several < 1500 || late < 50 {
		t.Error(all, small, several, late)
	}
}

func callsAny(f api.Fun) bool {
	for _, b := range f.Blocks {
		for _, x := range b.Insts {
			if x.Op == api.ICall {
				return true
			}
		}
	}
	return false
}

// TestLoops: it is plain; ways lead back often, to heads with phis, many of which go on by a number, and are multiplied or shifted by one.
func TestLoops(t *testing.T) {
	loops, several, steps, products := 0, 0, 0, 0
	for seed := range uint64(500) {
		c := samples.Loops(seed, 20)
		if !code.Plain(c) {
			t.Fatalf("%d: %d of %+v", seed, code.Check(c), c)
		}
		for _, f := range c.Funs {
			l, _ := flow.Loops(code.Graph(f))
			from, _ := flow.Into(code.Graph(f))
			loops += len(l)
			heads := map[int]bool{}
			for _, x := range l {
				if len(from[x.Head]) > 2 {
					several++
				}
				for _, p := range f.Blocks[x.Head].Phis {
					heads[p.Dst] = true
				}
			}
			numbers := map[int]bool{}
			for _, b := range f.Blocks {
				for _, x := range b.Insts {
					numbers[x.Dst] = x.Op == api.IConst
				}
			}
			for _, b := range f.Blocks {
				for _, x := range b.Insts {
					if len(x.Args) != 2 || !heads[x.Args[0]] || !numbers[x.Args[1]] {
						continue
					}
					switch x.Op {
					case api.Add, api.Sub:
						steps++
					case api.Mul, api.Shl:
						products++
					}
				}
			}
		}
	}
	if loops < 2000 || several < 500 || steps < 800 || products < 800 {
		t.Error(loops, several, steps, products)
	}
}

// TestRows: they are plain; most of what they make takes one value, or a number and a value, and marks and calls know of it; little is printed.
func TestRows(t *testing.T) {
	ops, known := map[byte]int{}, 0
	for seed := range uint64(300) {
		c := samples.Rows(seed)
		if !code.Plain(c) {
			t.Fatalf("%d: %d of %+v", seed, code.Check(c), c)
		}
		for _, x := range c.Funs[0].Blocks[0].Insts {
			ops[x.Op]++
			known += len(x.Dbg)
		}
	}
	for _, op := range []byte{api.Add, api.Sub, api.Mul, api.Shl, api.Neg, api.Not, api.ICopy, api.Xor, api.IConst, api.IRead, api.IMark, api.ICall, api.IPrint} {
		if ops[op] < 150 {
			t.Error("too few of the Op", op, ops[op])
		}
	}
	if known < 3000 || ops[api.IPrint] > 1000 {
		t.Error(known, ops[api.IPrint])
	}
}

func TestBits(t *testing.T) {
	for seed := range uint64(200) {
		ones := 0
		for _, n := range samples.Bits(seed, 100) {
			if n != 0 && n != 1 {
				t.Fatal(n)
			}
			ones += int(n)
		}
		if ones < 20 || ones > 80 {
			t.Error(seed, ones)
		}
	}
	if len(samples.Bits(3, 0)) != 0 || !reflect.DeepEqual(samples.Bits(3, 40), samples.Bits(3, 50)[:40]) {
		t.Error("bits don't hang on their number alone")
	}
}

func TestCodeWithFaults(t *testing.T) {
	wrong := 0
	for seed := range uint64(3000) {
		if code.Check(samples.Code(seed, 2, 2)) != api.OK {
			wrong++
		}
	}
	if wrong < 1000 || wrong > 2900 {
		t.Error("of 3000 codes so many are wrong:", wrong)
	}
}

func TestOneNumberMakesOneCode(t *testing.T) {
	if !reflect.DeepEqual(samples.Code(5, 2, 3), samples.Code(5, 2, 3)) || reflect.DeepEqual(samples.Code(5, 0, 0), samples.Code(6, 0, 0)) {
		t.Error("code doesn't hang on its number alone")
	}
	if !reflect.DeepEqual(samples.Ways(5, 9, 3), samples.Ways(5, 9, 3)) || reflect.DeepEqual(samples.Ways(5, 9, 3), samples.Ways(6, 9, 3)) {
		t.Error("ways don't hang on their number alone")
	}
	if !reflect.DeepEqual(samples.Plain(5, 9), samples.Plain(5, 9)) || reflect.DeepEqual(samples.Plain(5, 9), samples.Plain(6, 9)) {
		t.Error("plain code doesn't hang on its number alone")
	}
	if !reflect.DeepEqual(samples.Calls(5, 9), samples.Calls(5, 9)) || reflect.DeepEqual(samples.Calls(5, 9), samples.Calls(6, 9)) {
		t.Error("calls don't hang on their number alone")
	}
	if !reflect.DeepEqual(samples.Loops(5, 9), samples.Loops(5, 9)) || reflect.DeepEqual(samples.Loops(5, 9), samples.Loops(6, 9)) {
		t.Error("loops don't hang on their number alone")
	}
	if !reflect.DeepEqual(samples.Rows(5), samples.Rows(5)) || reflect.DeepEqual(samples.Rows(5), samples.Rows(6)) {
		t.Error("rows don't hang on their number alone")
	}
}
