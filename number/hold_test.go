package number_test

import (
	"fmt"
	"reflect"
	"slices"
	"testing"

	"teasel/alike"
	"teasel/api"
	"teasel/code"
	"teasel/number"
	"teasel/trace"
)

// told is a thing as text, not too long.
func told(x any) string {
	s := fmt.Sprintf("%+v", x)
	return s[:min(len(s), 5000)]
}

func nums(l ...int64) []int64 {
	return l
}

// mustRun answers what plain code becomes, which has the form that the chapter asks for.
func mustRun(t *testing.T, c api.Code) api.Code {
	t.Helper()
	if !code.Plain(c) {
		t.Fatalf("the code isn't plain: %s", told(c))
	}
	d, e := number.Run(c)
	if e != api.OK {
		t.Fatalf("Run answers %d of %s", e, told(c))
	}
	if !code.Plain(d) {
		t.Fatalf("Run doesn't answer plain code: %d, of\n%s:\n%s", code.Check(d), told(c), told(d))
	}
	if s := wrongForm(c, d); s != "" {
		t.Fatalf("%s, of\n%s:\n%s", s, told(c), told(d))
	}
	return d
}

// wrongForm tells what the chapter asks for and code hasn't.
func wrongForm(c, d api.Code) string {
	if d.Main != c.Main || len(d.Funs) != len(c.Funs) || len(d.Stops)+len(c.Stops) > 0 && !reflect.DeepEqual(d.Stops, c.Stops) {
		return "other functions, or other stops"
	}
	if code.Size(d) > code.Size(c) {
		return "more instructions and phis"
	}
	for i, f := range c.Funs {
		g := d.Funs[i]
		if g.Params != f.Params || len(g.Blocks) != len(f.Blocks) {
			return "other parameters, or other blocks"
		}
		for k, b := range g.Blocks {
			if a := f.Blocks[k]; b.End != a.End || b.To != a.To || b.Else != a.Else {
				return fmt.Sprintf("the block %d goes on elsewhere", k)
			}
		}
		had := kinds(f)
		for k, n := range kinds(g) {
			if n > had[k] && k.op != api.IConst {
				return fmt.Sprintf("an instruction that wasn't there: %+v", k)
			}
		}
		if s := twice(g); s != "" {
			return s
		}
	}
	return ""
}

// kind is what stays of an instruction.
type kind struct {
	op    byte
	imm   int64
	site  int
	makes bool
}

// kinds answers how often each one stands in a function.
func kinds(f api.Fun) map[kind]int {
	n := map[kind]int{}
	for _, b := range f.Blocks {
		for _, x := range append(slices.Clone(b.Phis), b.Insts...) {
			n[kind{x.Op, x.Imm, x.Site, x.Dst != -1}]++
		}
	}
	return n
}

// reckoned is an instruction, and where it stands.
type reckoned struct {
	api.Inst
	block int
}

// twice tells of something in a function that is there though something else could stand for it. It asks of each two, and follows all ways to find whether one is always done ahead of the other.
func twice(f api.Fun) string {
	had := map[string][]reckoned{}
	for i, b := range f.Blocks {
		for k, x := range b.Phis {
			for _, y := range b.Phis[:k] {
				if slices.Equal(x.Args, y.Args) {
					return fmt.Sprintf("two phis are the same: %+v and %+v", y, x)
				}
			}
			others := map[int]bool{}
			for _, v := range x.Args {
				others[v] = v != x.Dst
			}
			delete(others, x.Dst)
			if len(others) < 2 {
				return fmt.Sprintf("the phi %+v has one value", x)
			}
		}
		for _, x := range b.Insts {
			if x.Op == api.ICopy {
				return fmt.Sprintf("a copy: %+v", x)
			}
			if !code.Pure(x.Op) && x.Op != api.Div && x.Op != api.Rem {
				continue
			}
			args := slices.Clone(x.Args)
			switch x.Op {
			case api.Add, api.Mul, api.And, api.Or, api.Xor, api.Eq, api.Ne:
				slices.Sort(args)
			}
			k := fmt.Sprint(x.Op, x.Imm, args)
			for _, y := range had[k] {
				if y.block == i || alwaysAhead(f, y.block, i) || alwaysAhead(f, i, y.block) {
					return fmt.Sprintf("%+v and %+v are the same", y.Inst, x)
				}
			}
			had[k] = append(had[k], reckoned{x, i})
		}
	}
	return ""
}

// alwaysAhead tells whether each way to a block leads through another one.
func alwaysAhead(f api.Fun, without, block int) bool {
	seen := make([]bool, len(f.Blocks))
	seen[without] = true
	var visit func(i int)
	visit = func(i int) {
		if seen[i] {
			return
		}
		seen[i] = true
		for _, to := range code.Graph(f)[i] {
			visit(to)
		}
	}
	visit(0)
	return !seen[block]
}

// hold holds a run of code against that of what it becomes; it answers how it ends.
func hold(t *testing.T, c api.Code, input []int64, fuel int) byte {
	t.Helper()
	return holdRuns(t, c, mustRun(t, c), input, fuel)
}

func holdRuns(t *testing.T, c, d api.Code, input []int64, fuel int) byte {
	t.Helper()
	end, s := alike.Runs(c, d, input, fuel, true)
	if s != "" {
		t.Fatalf("%s, of\n%s:\n%s", s, told(c), told(d))
	}
	return end
}

// holdEnd holds a run that ends so, with these prints.
func holdEnd(t *testing.T, c api.Code, end byte, input []int64, want ...int64) {
	t.Helper()
	d := mustRun(t, c)
	if got := holdRuns(t, c, d, input, 1000); got != end {
		t.Errorf("the run ends with %d, not %d, of %s", got, end, told(c))
	}
	r, _ := trace.Run(d, input, 20000)
	if len(r.Outs)+len(want) > 0 && !reflect.DeepEqual(r.Outs, want) {
		t.Errorf("the run prints %v, want %v, of %s", r.Outs, want, told(d))
	}
}
