package trace_test

import (
	"reflect"
	"slices"
	"testing"

	"teasel/api"
	"teasel/code"
	"teasel/samples"
	"teasel/source"
	"teasel/trace"
)

// simple runs code the plain way: by calls in calls, with the values and variables by their numbers; it ends by a panic with how it ends. It keeps the state at each of the first marks.
type simple struct {
	c      api.Code
	input  []int64
	fuel   int
	r      trace.Result
	heap   map[int64]int64
	top    int64
	calls  []*simpleCall
	frames [][]api.Frame
	outs   []int
}

type simpleCall struct {
	f      api.Fun
	args   []int64
	values map[int]int64
	vars   map[int]int64
	at     api.Inst
}

const keptStates = 40

func simpleRun(c api.Code, input []int64, fuel int) (s *simple) {
	s = &simple{c: c, input: input, fuel: fuel, heap: map[int64]int64{}}
	defer func() {
		if end, ok := recover().(byte); ok {
			s.r.End = end
			if end == api.TrapZero || end == api.TrapCell || end == api.TrapIn {
				s.r.Stop = s.calls[len(s.calls)-1].at.Site
			}
		}
	}()
	s.r.Exit = s.call(c.Main, nil)
	s.r.End = api.Halt
	return s
}

func (s *simple) step() {
	if s.r.Steps == s.fuel {
		panic(byte(api.StopFuel))
	}
	s.r.Steps++
}

func must(is bool, end byte) {
	if !is {
		panic(end)
	}
}

// from answers which blocks go on to one, rising.
func from(f api.Fun, block int) []int {
	var l []int
	for i, b := range f.Blocks {
		if b.End == api.GoTo && b.To == block || b.End == api.Branch && (b.To == block || b.Else == block) {
			l = append(l, i)
		}
	}
	return l
}

func (s *simple) call(fn int, args []int64) int64 {
	c := &simpleCall{f: s.c.Funs[fn], args: args, values: map[int]int64{}, vars: map[int]int64{}}
	s.calls = append(s.calls, c)
	s.r.Calls = max(s.r.Calls, len(s.calls))
	block, behind := 0, -1
	for {
		b := c.f.Blocks[block]
		taken := map[int]int64{}
		for _, x := range b.Phis {
			taken[x.Dst] = c.values[x.Args[slices.Index(from(c.f, block), behind)]]
		}
		for v, n := range taken {
			c.values[v] = n
		}
		for _, x := range b.Insts {
			s.step()
			c.at = x
			s.inst(c, x)
		}
		s.step()
		behind = block
		switch {
		case b.End == api.GoTo || b.End == api.Branch && c.values[b.Arg] != 0:
			block = b.To
		case b.End == api.Branch:
			block = b.Else
		default:
			s.calls = s.calls[:len(s.calls)-1]
			if b.End == api.RetVal {
				return c.values[b.Arg]
			}
			return 0
		}
	}
}

func (s *simple) inst(c *simpleCall, x api.Inst) {
	var args []int64
	for _, a := range x.Args {
		args = append(args, c.values[a])
	}
	n := int64(0)
	switch x.Op {
	case api.IConst:
		n = x.Imm
	case api.ICopy:
		n = args[0]
	case api.IParam:
		n = c.args[x.Imm]
	case api.IGet:
		n = c.vars[int(x.Imm)]
	case api.ISet:
		c.vars[int(x.Imm)] = args[0]
	case api.ICall:
		n = s.call(int(x.Imm), args)
	case api.IPrint:
		s.r.Outs = append(s.r.Outs, args[0])
	case api.IRead:
		must(len(s.input) > 0, api.TrapIn)
		n, s.input = s.input[0], s.input[1:]
	case api.IMark:
		s.mark()
	case api.ILoad, api.IStore, api.ILen, api.IAlloc, api.ITop, api.IFree:
		n = s.memory(x, args)
	default:
		var trap byte
		n, trap = source.Value(x.Op, args[0], append(args, 0)[1])
		must(trap == 0, trap)
	}
	if x.Dst != -1 {
		c.values[x.Dst] = n
	}
}

func (s *simple) memory(x api.Inst, args []int64) int64 {
	switch x.Op {
	case api.ITop:
		return s.top
	case api.IFree:
		must(0 <= args[0] && args[0] <= s.top, api.Wrong)
		s.top = args[0]
		return 0
	case api.IAlloc:
		must(s.top+x.Imm+1 <= 4096, api.StopHeap)
		array := s.top + 1
		s.heap[s.top] = x.Imm
		s.top += x.Imm + 1
		for i := array; i < s.top; i++ {
			delete(s.heap, i)
		}
		return array
	}
	must(1 <= args[0] && args[0] <= s.top, api.Wrong)
	length := s.heap[args[0]-1]
	if x.Op == api.ILen {
		return length
	}
	must(0 <= args[1] && args[1] < length, api.TrapCell)
	must(args[1] < 5000 && args[0]+args[1] < s.top, api.Wrong)
	if x.Op == api.IStore {
		s.heap[args[0]+args[1]] = args[2]
		return 0
	}
	return s.heap[args[0]+args[1]]
}

func (s *simple) mark() {
	s.r.Marks++
	if s.r.Marks > keptStates {
		return
	}
	var l []api.Frame
	for _, c := range slices.Backward(s.calls) {
		for depth, spot := range s.c.Stops[c.at.Site] {
			f := api.Frame{Fn: spot.Fn, Stmt: spot.Stmt}
			for v := -20; v <= 20; v++ {
				for _, d := range c.at.Dbg {
					if d.Depth == depth && d.Var == v {
						f.Vars = append(f.Vars, api.Shown{Var: v, Has: true, N: c.known(d)})
					}
				}
			}
			l = append(l, f)
		}
	}
	s.frames = append(s.frames, l)
	s.outs = append(s.outs, len(s.r.Outs))
}

func (c *simpleCall) known(d api.Dbg) int64 {
	switch d.Kind {
	case api.DNum:
		return d.B
	case api.DVal:
		return d.A*c.values[d.Arg] + d.B
	}
	return c.vars[d.Arg]
}

func holdAgainstSimple(t *testing.T, c api.Code, input []int64, fuel int) byte {
	t.Helper()
	r, e := trace.Run(c, input, fuel)
	if want := code.Check(c); want != api.OK {
		if e != want || !reflect.DeepEqual(r, trace.Result{}) {
			t.Fatalf("Run answers %+v %d, want the error %d, of %+v", r, e, want, c)
		}
		return 0
	}
	s := simpleRun(c, input, fuel)
	if e != api.OK || !reflect.DeepEqual(plainResult(r), plainResult(s.r)) {
		t.Fatalf("Run answers\n%+v %d, want\n%+v, of\n%+v", r, e, s.r, c)
	}
	for i, frames := range s.frames {
		l, outs, e := trace.State(c, input, i+1, fuel)
		if e != api.OK || outs != s.outs[i] || !reflect.DeepEqual(plain(l), plain(frames)) {
			t.Fatalf("State at %d answers\n%+v %d %d, want\n%+v %d, of\n%+v", i+1, l, outs, e, frames, s.outs[i], c)
		}
	}
	if l, outs, e := trace.State(c, input, r.Marks+1, fuel); e != api.ErrEnd || len(l) != 0 || outs != 0 {
		t.Fatalf("State behind the last mark answers %v %d %d, of %+v", l, outs, e, c)
	}
	return r.End
}

func TestAgainstASimpleRun(t *testing.T) {
	had := map[byte]int{}
	for seed := range uint64(6000) {
		input := nums(3, -1, 0, int64(seed), 7, 1, -1<<63, 2, 5, 1, 1)[:seed%12]
		fuel := 400
		switch seed % 8 {
		case 0:
			fuel = int(seed % 53)
		case 1:
			fuel = 4000
		}
		had[holdAgainstSimple(t, samples.Code(seed, int(seed%5), 0), input, fuel)]++
	}
	for end := byte(api.Halt); end <= api.Wrong; end++ {
		if had[end] < 10 && end != api.StopCall {
			t.Errorf("only %d of the runs end with %d", had[end], end)
		}
	}
	if had[0] > 0 {
		t.Errorf("%d of the codes aren't right", had[0])
	}
}

func TestOfWrongCode(t *testing.T) {
	for seed := range uint64(3000) {
		holdAgainstSimple(t, samples.Code(seed, int(seed%4), 1+int(seed%3)), nums(1, 2, 3), 200)
	}
}

func FuzzRun(f *testing.F) {
	for seed := range uint64(20) {
		f.Add(seed, 3, 0, int64(seed), 500)
	}
	f.Fuzz(func(t *testing.T, seed uint64, vars, faults int, n int64, fuel int) {
		if 0 <= fuel && fuel <= api.MaxFuel {
			holdAgainstSimple(t, samples.Code(seed, max(0, vars%9), faults%3), nums(n, 2, n, 0, 5), min(fuel, 3000))
		}
	})
}
