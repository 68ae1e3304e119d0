package motion_test

import (
	"fmt"
	"reflect"
	"slices"
	"testing"

	"teasel/alike"
	"teasel/api"
	"teasel/code"
	"teasel/flow"
	"teasel/motion"
	"teasel/trace"
)

// told is a thing as text, not too long.
func told(x any) string {
	s := fmt.Sprintf("%+v", x)
	return s[:min(len(s), 5000)]
}

func nums(l ...int64) []int64 {
	return l
}

// mustRun answers what plain code becomes, which has the form that the chapter asks for.
func mustRun(t *testing.T, c api.Code) api.Code {
	t.Helper()
	if !code.Plain(c) {
		t.Fatalf("the code isn't plain: %s", told(c))
	}
	d, e := motion.Run(c)
	if e != api.OK {
		t.Fatalf("Run answers %d of %s", e, told(c))
	}
	if !code.Plain(d) {
		t.Fatalf("Run doesn't answer plain code: %d, of\n%s:\n%s", code.Check(d), told(c), told(d))
	}
	if s := wrongForm(c, d); s != "" {
		t.Fatalf("%s, of\n%s:\n%s", s, told(c), told(d))
	}
	return d
}

// wrongForm tells what the chapter asks for and code hasn't.
func wrongForm(c, d api.Code) string {
	if d.Main != c.Main || len(d.Funs) != len(c.Funs) || len(d.Stops)+len(c.Stops) > 0 && !reflect.DeepEqual(d.Stops, c.Stops) {
		return "other functions, or other stops"
	}
	for i, f := range c.Funs {
		g := d.Funs[i]
		if g.Params != f.Params {
			return "other parameters"
		}
		if !reflect.DeepEqual(insts(f), insts(g)) {
			return "other instructions"
		}
		if s := alike.Entered(g); s != "" {
			return s
		}
		if s := sameEachTime(g); s != "" {
			return s
		}
	}
	return ""
}

// insts answers how often each instruction stands in a function, by all that is said of it.
func insts(f api.Fun) map[string]int {
	n := map[string]int{}
	for _, b := range f.Blocks {
		for _, x := range b.Insts {
			s := fmt.Sprint(x.Op, x.Dst, x.Args, x.Imm, x.Site)
			for _, d := range x.Dbg {
				if d.Kind == api.DNum {
					d.Arg, d.A = 0, 0
				}
				if x.Op == api.IMark || x.Op == api.ICall {
					s += fmt.Sprint(d)
				}
			}
			n[s]++
		}
	}
	return n
}

// sameEachTime tells of a pure instruction in a loop none of whose Args is made in it.
func sameEachTime(f api.Fun) string {
	loops, _ := flow.Loops(code.Graph(f))
	for _, l := range loops {
		made := map[int]bool{}
		for _, i := range l.Nodes {
			for _, x := range append(slices.Clone(f.Blocks[i].Phis), f.Blocks[i].Insts...) {
				made[x.Dst] = true
			}
		}
		for _, i := range l.Nodes {
			for _, x := range f.Blocks[i].Insts {
				if code.Pure(x.Op) && !slices.ContainsFunc(x.Args, func(v int) bool { return made[v] }) {
					return fmt.Sprintf("%+v is the same each time in the loop of the block %d", x, l.Head)
				}
			}
		}
	}
	return ""
}

// hold holds a run of code against that of what it becomes; it answers how it ends.
func hold(t *testing.T, c api.Code, input []int64, fuel int) byte {
	t.Helper()
	return holdRuns(t, c, mustRun(t, c), input, fuel)
}

func holdRuns(t *testing.T, c, d api.Code, input []int64, fuel int) byte {
	t.Helper()
	end, s := alike.Runs(c, d, input, fuel, true)
	if s != "" {
		t.Fatalf("%s, of\n%s:\n%s", s, told(c), told(d))
	}
	return end
}

// holdEnd holds a run that ends so, with these prints.
func holdEnd(t *testing.T, c api.Code, end byte, input []int64, want ...int64) {
	t.Helper()
	d := mustRun(t, c)
	if got := holdRuns(t, c, d, input, 1000); got != end {
		t.Errorf("the run ends with %d, not %d, of %s", got, end, told(c))
	}
	r, _ := trace.Run(d, input, 20000)
	if len(r.Outs)+len(want) > 0 && !slices.Equal(r.Outs, want) {
		t.Errorf("the run prints %v, want %v, of %s", r.Outs, want, told(d))
	}
}

// wantBlocks holds what the blocks of the first function become, all of them.
func wantBlocks(t *testing.T, c api.Code, want ...api.Block) {
	t.Helper()
	got := mustRun(t, c).Funs[0].Blocks
	if !reflect.DeepEqual(got, want) {
		t.Errorf("the blocks are\n%s, want\n%s", told(got), told(want))
	}
}

// home answers the block of the first function in which a value is made.
func home(c api.Code, value int) int {
	for i, b := range c.Funs[0].Blocks {
		for _, x := range append(slices.Clone(b.Phis), b.Insts...) {
			if x.Dst == value {
				return i
			}
		}
	}
	return -1
}

// wantHome holds in which block some values are made.
func wantHome(t *testing.T, c api.Code, block int, values ...int) {
	t.Helper()
	d := mustRun(t, c)
	for _, v := range values {
		if got := home(d, v); got != block {
			t.Errorf("the value %d is made in the block %d, not %d, of %s", v, got, block, told(d))
		}
	}
}

// wantStay holds that some values are made where they were.
func wantStay(t *testing.T, c api.Code, values ...int) {
	t.Helper()
	for _, v := range values {
		wantHome(t, c, home(c, v), v)
	}
}

// wantShown holds what is shown at the mark k in its innermost frame: of each variable its number.
func wantShown(t *testing.T, c api.Code, input []int64, k int, want map[int]int64) {
	t.Helper()
	hold(t, c, input, 1000)
	l, _, e := trace.State(mustRun(t, c), input, k, 20000)
	if e != api.OK {
		t.Fatal("no such mark", k, e)
	}
	had := map[int]int64{}
	for _, s := range l[0].Vars {
		had[s.Var] = s.N
	}
	if !reflect.DeepEqual(had, want) {
		t.Errorf("at the mark %d is shown %v, want %v, of %s", k, had, want, told(c))
	}
}
