package source_test

import (
	"reflect"
	"slices"
	"testing"

	"teasel/api"
	"teasel/samples"
	"teasel/source"
	"teasel/tree"
	"teasel/types"
)

// simple runs a program the plain way: by calls in calls, with the variables by their names; it ends by a panic with how it ends. It keeps the state at each of the first entries.
type simple struct {
	p      api.Prog
	info   api.Info
	input  []int64
	fuel   int
	r      source.Result
	inUse  int
	calls  []*simpleCall
	frames [][]api.Frame
	outs   []int
}

// simpleCall has of each variable that was given a value a number, or an array.
type simpleCall struct {
	fn   int
	stmt int
	nums map[string]int64
	arrs map[string][]int64
}

const keptStates = 60

func simpleRun(p api.Prog, info api.Info, input []int64, fuel int) (s *simple) {
	s = &simple{p: p, info: info, input: input, fuel: fuel}
	defer func() {
		if end, ok := recover().(byte); ok {
			s.r.End = end
			if end != api.StopFuel {
				s.r.Stmt = s.calls[len(s.calls)-1].stmt
			}
		}
	}()
	for i, f := range p.Funcs {
		if f.Name == "main" {
			s.r.Exit = s.call(i, &simpleCall{fn: i, nums: map[string]int64{}, arrs: map[string][]int64{}})
			s.r.End = api.Halt
		}
	}
	return s
}

func (s *simple) call(fn int, c *simpleCall) int64 {
	s.calls = append(s.calls, c)
	s.r.Calls = max(s.r.Calls, len(s.calls))
	before := s.inUse
	n, _ := s.block(c, s.p.Funcs[fn].Body)
	s.inUse = before
	s.calls = s.calls[:len(s.calls)-1]
	return n
}

// block tells what is answered, and whether anything is.
func (s *simple) block(c *simpleCall, body []api.Stmt) (int64, bool) {
	for _, x := range body {
		if n, done := s.statement(c, x); done {
			return n, true
		}
	}
	return 0, false
}

func (s *simple) enter(c *simpleCall, stmt int) {
	if s.r.Entries == s.fuel {
		panic(byte(api.StopFuel))
	}
	s.r.Entries++
	c.stmt = stmt
	if s.r.Entries <= keptStates {
		s.outs = append(s.outs, len(s.r.Outs))
		s.frames = append(s.frames, s.state())
	}
}

func (s *simple) state() []api.Frame {
	var l []api.Frame
	for _, c := range slices.Backward(s.calls) {
		f := api.Frame{Fn: c.fn, Stmt: c.stmt}
		for _, n := range s.info.Points[c.stmt].Sure {
			name := s.info.Vars[c.fn][n].Name
			number, isNumber := c.nums[name]
			array, isArray := c.arrs[name]
			f.Vars = append(f.Vars, api.Shown{Var: n, Has: isNumber || isArray, N: number, List: slices.Clone(array)})
		}
		l = append(l, f)
	}
	return l
}

func (s *simple) statement(c *simpleCall, x api.Stmt) (int64, bool) {
	s.enter(c, x.ID)
	switch x.Kind {
	case api.SLet:
		if x.Type == api.TArr {
			c.arrs[x.Name] = make([]int64, x.N)
			s.inUse += int(x.N) + 1
			s.r.Cells = max(s.r.Cells, s.inUse)
		} else if len(x.Exprs) > 0 {
			c.nums[x.Name] = s.expr(c, x.Exprs[0])
		}
	case api.SSet:
		c.nums[x.Name] = s.expr(c, x.Exprs[0])
	case api.SPut:
		at := s.expr(c, x.Exprs[0])
		n := s.expr(c, x.Exprs[1])
		*s.cell(c.arrs[x.Name], at) = n
	case api.SIf:
		if s.expr(c, x.Exprs[0]) != 0 {
			return s.block(c, x.Body)
		}
		return s.block(c, x.Else)
	case api.SWhile:
		for s.expr(c, x.Exprs[0]) != 0 {
			if n, done := s.block(c, x.Body); done {
				return n, true
			}
			s.enter(c, x.ID)
		}
	case api.SReturn:
		if len(x.Exprs) > 0 {
			return s.expr(c, x.Exprs[0]), true
		}
		return 0, true
	case api.SPrint:
		n := s.expr(c, x.Exprs[0])
		s.r.Outs = append(s.r.Outs, n)
	case api.SCall:
		s.expr(c, x.Exprs[0])
	}
	return 0, false
}

func (s *simple) cell(a []int64, at int64) *int64 {
	if at < 0 || at >= int64(len(a)) {
		panic(byte(api.TrapCell))
	}
	return &a[at]
}

func (s *simple) expr(c *simpleCall, e api.Expr) int64 {
	switch e.Kind {
	case api.EVar:
		return c.nums[e.Name]
	case api.EElem:
		return *s.cell(c.arrs[e.Name], s.expr(c, e.Args[0]))
	case api.ECall:
		return s.called(c, e)
	case api.ERead:
		if len(s.input) == 0 {
			panic(byte(api.TrapIn))
		}
		n := s.input[0]
		s.input = s.input[1:]
		return n
	case api.ELen:
		return int64(len(c.arrs[e.Name]))
	case api.EUn:
		return s.value(e.Op, s.expr(c, e.Args[0]), 0)
	case api.EBin:
		left := s.expr(c, e.Args[0])
		if e.Op == api.LAnd && left == 0 || e.Op == api.LOr && left == 1 {
			return left
		}
		right := s.expr(c, e.Args[1])
		if e.Op == api.LAnd || e.Op == api.LOr {
			return right
		}
		return s.value(e.Op, left, right)
	}
	return e.N
}

func (s *simple) value(op byte, a, b int64) int64 {
	n, trap := source.Value(op, a, b)
	if trap != 0 {
		panic(trap)
	}
	return n
}

func (s *simple) called(c *simpleCall, e api.Expr) int64 {
	i := slices.IndexFunc(s.p.Funcs, func(f api.Func) bool { return f.Name == e.Name })
	d := &simpleCall{fn: i, nums: map[string]int64{}, arrs: map[string][]int64{}}
	for k, q := range s.p.Funcs[i].Params {
		if q.Type == api.TArr {
			d.arrs[q.Name] = c.arrs[e.Args[k].Name]
		} else {
			d.nums[q.Name] = s.expr(c, e.Args[k])
		}
	}
	return s.call(i, d)
}

func holdAgainstSimple(t *testing.T, text string, input []int64, fuel int) byte {
	t.Helper()
	p, _, e := tree.Parse(text)
	if e != api.OK {
		return 0
	}
	info, _, e := types.Check(p)
	r, got := source.Run(p, input, fuel)
	if got != e || e != api.OK {
		if got != e || !reflect.DeepEqual(r, source.Result{}) {
			t.Fatalf("Run answers %+v %d, want the error %d, of\n%s", r, got, e, text)
		}
		return 0
	}
	s := simpleRun(p, info, input, fuel)
	if len(r.Outs) == 0 {
		r.Outs, s.r.Outs = nil, append([]int64(nil), s.r.Outs...)
	}
	if !reflect.DeepEqual(r, s.r) {
		t.Fatalf("Run answers\n%+v, want\n%+v, of\n%s", r, s.r, text)
	}
	for i, frames := range s.frames {
		l, outs, e := source.State(p, input, i+1)
		if e != api.OK || outs != s.outs[i] || !reflect.DeepEqual(plain(l), plain(frames)) {
			t.Fatalf("State at %d answers\n%+v %d %d, want\n%+v %d, of\n%s", i+1, l, outs, e, frames, s.outs[i], text)
		}
	}
	if r.End != api.StopFuel {
		if l, outs, e := source.State(p, input, r.Entries+1); e != api.ErrEnd || len(l) != 0 || outs != 0 {
			t.Fatalf("State behind the last entry answers %v %d %d, of\n%s", l, outs, e, text)
		}
	}
	return r.End
}

func TestAgainstASimpleRun(t *testing.T) {
	ends := map[byte]int{}
	for seed := range uint64(2500) {
		input := nums(3, -1, 0, int64(seed), 7, 1, least, 2, 5, 1, 1)[:seed%12]
		fuel := 3000
		if seed%4 == 0 {
			fuel = int(seed % 97)
		}
		ends[holdAgainstSimple(t, samples.Text(seed, 0), input, fuel)]++
	}
	for _, end := range []byte{api.Halt, api.TrapZero, api.TrapCell, api.TrapIn, api.StopFuel} {
		if ends[end] < 10 {
			t.Errorf("only %d of the runs end with %d", ends[end], end)
		}
	}
	if ends[0] > 0 {
		t.Errorf("%d of the texts aren't right", ends[0])
	}
}

func FuzzRun(f *testing.F) {
	for seed := range uint64(20) {
		f.Add(samples.Text(seed, 0), int64(seed), 500)
	}
	f.Add(counting, int64(1), 14)
	f.Fuzz(func(t *testing.T, s string, n int64, fuel int) {
		if len(s) < 2000 && 0 <= fuel && fuel <= source.MaxEntries {
			holdAgainstSimple(t, s, nums(n, 2, n), min(fuel, 2000))
		}
	})
}
