package calls_test

import (
	"fmt"
	"reflect"
	"slices"
	"testing"

	"teasel/alike"
	"teasel/api"
	"teasel/calls"
	"teasel/code"
	"teasel/trace"
)

// told is a thing as text, not too long.
func told(x any) string {
	s := fmt.Sprintf("%+v", x)
	return s[:min(len(s), 5000)]
}

func nums(l ...int64) []int64 {
	return l
}

// mustRun answers what plain code becomes, which has the form that the chapter asks for.
func mustRun(t *testing.T, c api.Code) api.Code {
	t.Helper()
	if !code.Plain(c) {
		t.Fatalf("the code isn't plain: %s", told(c))
	}
	d, e := calls.Run(c)
	if e != api.OK {
		t.Fatalf("Run answers %d of %s", e, told(c))
	}
	if !code.Plain(d) {
		t.Fatalf("Run doesn't answer plain code: %d, of\n%s:\n%s", code.Check(d), told(c), told(d))
	}
	if s := wrongForm(c, d); s != "" {
		t.Fatalf("%s, of\n%s:\n%s", s, told(c), told(d))
	}
	return d
}

// wrongForm tells what the chapter asks for and code hasn't.
func wrongForm(c, d api.Code) string {
	if d.Main != c.Main || len(d.Funs) != len(c.Funs) {
		return "other functions"
	}
	if len(d.Stops) < len(c.Stops) || len(c.Stops) > 0 && !reflect.DeepEqual(d.Stops[:len(c.Stops)], c.Stops) {
		return "other stops"
	}
	small := smallOnes(c)
	all := len(c.Funs) <= 20 && code.Size(c) <= 1000
	for i, f := range c.Funs {
		g := d.Funs[i]
		if g.Params != f.Params {
			return "other parameters"
		}
		for fn, n := range called(g) {
			if small[fn] && all && size(f)+len(f.Blocks) <= 200 {
				return fmt.Sprintf("%d calls of the function %d in the function %d", n, fn, i)
			}
			if !small[fn] && n != called(f)[fn] {
				return fmt.Sprintf("%d calls of the function %d in the function %d, which had %d", n, fn, i, called(f)[fn])
			}
		}
		if s := wrongKinds(c, f, g); s != "" {
			return fmt.Sprintf("%s in the function %d", s, i)
		}
	}
	return ""
}

// smallOnes: by the chapter's words.
func smallOnes(c api.Code) map[int]bool {
	l := map[int]bool{}
	for i, f := range c.Funs {
		answers := 0
		for _, b := range f.Blocks {
			if b.End == api.RetVal || b.End == api.RetNone {
				answers++
			}
		}
		l[i] = len(called(f)) == 0 && size(f) <= 16 && len(f.Blocks) <= 8 && answers > 0
	}
	return l
}

// called answers how often each function is called in one.
func called(f api.Fun) map[int]int {
	n := map[int]int{}
	for _, b := range f.Blocks {
		for _, x := range b.Insts {
			if x.Op == api.ICall {
				n[int(x.Imm)]++
			}
		}
	}
	return n
}

func size(f api.Fun) int {
	return code.Size(api.Code{Funs: []api.Fun{f}})
}

// wrongKinds tells of something that a function g, which f became, does more or less often than f and those that are done in it. Numbers, copies and phis it may have more.
func wrongKinds(c api.Code, f, g api.Fun) string {
	want := kinds(f, false)
	left := called(g)
	for fn, n := range called(f) {
		for k, m := range kinds(c.Funs[fn], true) {
			want[k] += m * (n - left[fn])
		}
	}
	has := kinds(g, false)
	for k := range has {
		want[k] += 0
	}
	for k, n := range want {
		switch k.op {
		case api.IConst, api.ICopy, api.IPhi, api.ICall:
			if has[k] >= n || k.op == api.ICall {
				continue
			}
		}
		if has[k] != n {
			return fmt.Sprintf("%+v stands there %d times, not %d", k, has[k], n)
		}
	}
	return ""
}

// kind is what an instruction does.
type kind struct {
	op  byte
	imm int64
}

// kinds answers how often each one stands in a function; parameters of one that is done elsewhere are nothing.
func kinds(f api.Fun, elsewhere bool) map[kind]int {
	n := map[kind]int{}
	for _, b := range f.Blocks {
		for _, x := range append(slices.Clone(b.Phis), b.Insts...) {
			if !elsewhere || x.Op != api.IParam {
				n[kind{x.Op, x.Imm}]++
			}
		}
	}
	return n
}

// hold holds a run of code against that of what it becomes; it answers how it ends.
func hold(t *testing.T, c api.Code, input []int64, fuel int) byte {
	t.Helper()
	return holdRuns(t, c, mustRun(t, c), input, fuel)
}

func holdRuns(t *testing.T, c, d api.Code, input []int64, fuel int) byte {
	t.Helper()
	end, s := alike.Runs(c, d, input, fuel, true)
	if s != "" {
		t.Fatalf("%s, of\n%s:\n%s", s, told(c), told(d))
	}
	return end
}

// holdEnd holds a run that ends so, with these prints.
func holdEnd(t *testing.T, c api.Code, end byte, input []int64, want ...int64) {
	t.Helper()
	d := mustRun(t, c)
	if got := holdRuns(t, c, d, input, 1000); got != end {
		t.Errorf("the run ends with %d, not %d, of %s", got, end, told(c))
	}
	r, _ := trace.Run(d, input, 20000)
	if len(r.Outs)+len(want) > 0 && !slices.Equal(r.Outs, want) {
		t.Errorf("the run prints %v, want %v, of %s", r.Outs, want, told(d))
	}
}

// wantCalls holds how many calls each function has still.
func wantCalls(t *testing.T, c api.Code, want ...int) {
	t.Helper()
	for i, f := range mustRun(t, c).Funs {
		n := 0
		for _, m := range called(f) {
			n += m
		}
		if n != want[i] {
			t.Errorf("the function %d has %d calls, want %d, of %s", i, n, want[i], told(c))
		}
	}
}

// wantFrames holds the frames at the mark k.
func wantFrames(t *testing.T, c api.Code, input []int64, k int, want ...api.Frame) {
	t.Helper()
	hold(t, c, input, 1000)
	l, _, e := trace.State(mustRun(t, c), input, k, 20000)
	if e != api.OK || !reflect.DeepEqual(l, want) {
		t.Errorf("%d: at the mark %d there is %+v, want\n%+v", e, k, l, want)
	}
}

// frame is one in which variables have these numbers, from 0 on.
func frame(fn, stmt int, l ...int64) api.Frame {
	f := api.Frame{Fn: fn, Stmt: stmt}
	for v, n := range l {
		f.Vars = append(f.Vars, api.Shown{Var: v, Has: true, N: n})
	}
	return f
}
