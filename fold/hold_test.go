package fold_test

import (
	"fmt"
	"reflect"
	"testing"

	"teasel/alike"
	"teasel/api"
	"teasel/code"
	"teasel/fold"
	"teasel/trace"
)

// told is a thing as text, not too long.
func told(x any) string {
	s := fmt.Sprintf("%+v", x)
	return s[:min(len(s), 5000)]
}

func nums(l ...int64) []int64 {
	return l
}

// mustRun answers what plain code becomes, which has the form that the chapter asks for.
func mustRun(t *testing.T, c api.Code) api.Code {
	t.Helper()
	if !code.Plain(c) {
		t.Fatalf("the code isn't plain: %s", told(c))
	}
	d, e := fold.Run(c)
	if e != api.OK {
		t.Fatalf("Run answers %d of %s", e, told(c))
	}
	if !code.Plain(d) {
		t.Fatalf("Run doesn't answer plain code: %d, of\n%s:\n%s", code.Check(d), told(c), told(d))
	}
	if s := wrongForm(c, d); s != "" {
		t.Fatalf("%s, of\n%s:\n%s", s, told(c), told(d))
	}
	return d
}

// wrongForm tells what the chapter asks for and code hasn't.
func wrongForm(c, d api.Code) string {
	if d.Main != c.Main || len(d.Funs) != len(c.Funs) || len(d.Stops)+len(c.Stops) > 0 && !reflect.DeepEqual(d.Stops, c.Stops) {
		return "other functions, or other stops"
	}
	if code.Size(d) > code.Size(c) {
		return "more instructions and phis"
	}
	for i, f := range c.Funs {
		g := d.Funs[i]
		if g.Params != f.Params || len(g.Blocks) > len(f.Blocks) {
			return "other parameters, or more blocks"
		}
		had := kinds(f)
		for k, n := range kinds(g) {
			if n > had[k] && k.op != api.IConst {
				return fmt.Sprintf("an instruction that wasn't there: %+v", k)
			}
		}
		if s := needless(g); s != "" {
			return s
		}
	}
	return ""
}

// kind is what stays of an instruction.
type kind struct {
	op    byte
	imm   int64
	site  int
	makes bool
}

// kinds answers how often each one stands in a function.
func kinds(f api.Fun) map[kind]int {
	n := map[kind]int{}
	for _, b := range f.Blocks {
		for _, x := range append(append([]api.Inst{}, b.Phis...), b.Insts...) {
			n[kind{x.Op, x.Imm, x.Site, x.Dst != -1}]++
		}
	}
	return n
}

// needless tells of something in a function that is known ahead.
func needless(f api.Fun) string {
	numbers := map[int]int64{}
	for _, b := range f.Blocks {
		for _, x := range b.Insts {
			if x.Op == api.IConst {
				numbers[x.Dst] = x.Imm
			}
		}
	}
	known := func(l []int) bool {
		for _, v := range l {
			if _, is := numbers[v]; !is {
				return false
			}
		}
		return true
	}
	for _, b := range f.Blocks {
		if b.End == api.Branch && known([]int{b.Arg}) {
			return "a branch by what is known"
		}
		for _, x := range b.Insts {
			if code.Pure(x.Op) && x.Op != api.IConst && known(x.Args) {
				return fmt.Sprintf("%+v is known", x)
			}
			if (x.Op == api.Div || x.Op == api.Rem) && known(x.Args) && numbers[x.Args[1]] != 0 {
				return fmt.Sprintf("%+v is known", x)
			}
		}
		for _, x := range b.Phis {
			same := known(x.Args)
			for _, v := range x.Args {
				same = same && numbers[v] == numbers[x.Args[0]]
			}
			if same {
				return fmt.Sprintf("%+v is known", x)
			}
		}
	}
	return ""
}

// hold holds a run of code against that of what it becomes; it answers how it ends.
func hold(t *testing.T, c api.Code, input []int64, fuel int) byte {
	t.Helper()
	return holdRuns(t, c, mustRun(t, c), input, fuel)
}

func holdRuns(t *testing.T, c, d api.Code, input []int64, fuel int) byte {
	t.Helper()
	end, s := alike.Runs(c, d, input, fuel, true)
	if s != "" {
		t.Fatalf("%s, of\n%s:\n%s", s, told(c), told(d))
	}
	return end
}

// holdEnd holds a run that ends so, with these prints.
func holdEnd(t *testing.T, c api.Code, end byte, input []int64, want ...int64) {
	t.Helper()
	d := mustRun(t, c)
	if got := holdRuns(t, c, d, input, 1000); got != end {
		t.Errorf("the run ends with %d, not %d, of %s", got, end, told(c))
	}
	r, _ := trace.Run(d, input, 20000)
	if len(r.Outs)+len(want) > 0 && !reflect.DeepEqual(r.Outs, want) {
		t.Errorf("the run prints %v, want %v, of %s", r.Outs, want, told(d))
	}
}

// wantBlocks holds how many blocks each function has become.
func wantBlocks(t *testing.T, c api.Code, want ...int) {
	t.Helper()
	for i, f := range mustRun(t, c).Funs {
		if len(f.Blocks) != want[i] {
			t.Errorf("the function %d has %d blocks, want %d, of %s", i, len(f.Blocks), want[i], told(c))
		}
	}
}

// made answers by what a value of the first function is made.
func made(t *testing.T, c api.Code, value int) api.Inst {
	t.Helper()
	for _, b := range c.Funs[0].Blocks {
		for _, x := range append(append([]api.Inst{}, b.Phis...), b.Insts...) {
			if x.Dst == value {
				return x
			}
		}
	}
	t.Fatalf("nothing makes the value %d in %s", value, told(c))
	return api.Inst{}
}

// wantNumber holds that a value has become a number.
func wantNumber(t *testing.T, c api.Code, value int, n int64) {
	t.Helper()
	if x := made(t, mustRun(t, c), value); x.Op != api.IConst || x.Imm != n || len(x.Args) != 0 {
		t.Errorf("the value %d is made by %+v, not %d, of %s", value, x, n, told(c))
	}
}
