package reduce_test

import (
	"fmt"
	"reflect"
	"slices"
	"testing"

	"teasel/alike"
	"teasel/api"
	"teasel/code"
	"teasel/flow"
	. "teasel/parts"
	"teasel/reduce"
	"teasel/trace"
)

// told is a thing as text, not too long.
func told(x any) string {
	s := fmt.Sprintf("%+v", x)
	return s[:min(len(s), 5000)]
}

func nums(l ...int64) []int64 {
	return l
}

// mustRun answers what plain code becomes, which has the form that the chapter asks for.
func mustRun(t *testing.T, c api.Code) api.Code {
	t.Helper()
	if !code.Plain(c) {
		t.Fatalf("the code isn't plain: %s", told(c))
	}
	d, e := reduce.Run(c)
	if e != api.OK {
		t.Fatalf("Run answers %d of %s", e, told(c))
	}
	if !code.Plain(d) {
		t.Fatalf("Run doesn't answer plain code: %d, of\n%s:\n%s", code.Check(d), told(c), told(d))
	}
	if s := wrongForm(c, d); s != "" {
		t.Fatalf("%s, of\n%s:\n%s", s, told(c), told(d))
	}
	return d
}

// wrongForm tells what the chapter asks for and code hasn't.
func wrongForm(c, d api.Code) string {
	if d.Main != c.Main || len(d.Funs) != len(c.Funs) || len(d.Stops)+len(c.Stops) > 0 && !reflect.DeepEqual(d.Stops, c.Stops) {
		return "other functions, or other stops"
	}
	for i, f := range d.Funs {
		if f.Params != c.Funs[i].Params {
			return "other parameters"
		}
		if s := alike.Entered(f); s != "" {
			return s
		}
		for _, x := range products(f) {
			return fmt.Sprintf("a product of a counter: %+v", x)
		}
	}
	return ""
}

// makers answers of each value of a function by which instruction or phi it is made.
func makers(f api.Fun) map[int]api.Inst {
	m := map[int]api.Inst{}
	for _, b := range f.Blocks {
		for _, x := range append(slices.Clone(b.Phis), b.Insts...) {
			m[x.Dst] = x
		}
	}
	return m
}

// counters answers by the chapter's words which values are counters of a loop; from are the blocks that go on to its head.
func counters(f api.Fun, l flow.Loop, from []int, m map[int]api.Inst) map[int]bool {
	isNumber := func(v int) bool { return m[v].Op == api.IConst }
	out := map[int]bool{}
	if len(from) != 2 || slices.Contains(l.Nodes, from[0]) == slices.Contains(l.Nodes, from[1]) {
		return out
	}
	inside := 0
	if slices.Contains(l.Nodes, from[1]) {
		inside = 1
	}
	for _, x := range f.Blocks[l.Head].Phis {
		y := m[x.Args[inside]]
		if y.Op == api.Add && (y.Args[0] == x.Dst && isNumber(y.Args[1]) || y.Args[1] == x.Dst && isNumber(y.Args[0])) || y.Op == api.Sub && y.Args[0] == x.Dst && isNumber(y.Args[1]) {
			out[x.Dst] = true
		}
	}
	return out
}

// products answers by the chapter's words the products of counters, that must not be.
func products(f api.Fun) []api.Inst {
	m := makers(f)
	isNumber := func(v int) bool { return m[v].Op == api.IConst }
	g := code.Graph(f)
	loops, _ := flow.Loops(g)
	from, _ := flow.Into(g)
	var out []api.Inst
	for _, l := range loops {
		counts := counters(f, l, from[l.Head], m)
		for _, i := range l.Nodes {
			for _, x := range f.Blocks[i].Insts {
				if (x.Op == api.Mul || x.Op == api.Shl) && counts[x.Args[0]] && isNumber(x.Args[1]) || x.Op == api.Mul && counts[x.Args[1]] && isNumber(x.Args[0]) {
					out = append(out, x)
				}
			}
		}
	}
	return out
}

// hold holds a run of code against that of what it becomes; it answers how it ends.
func hold(t *testing.T, c api.Code, input []int64, fuel int) byte {
	t.Helper()
	return holdRuns(t, c, mustRun(t, c), input, fuel)
}

func holdRuns(t *testing.T, c, d api.Code, input []int64, fuel int) byte {
	t.Helper()
	end, s := alike.Runs(c, d, input, fuel, true)
	if s != "" {
		t.Fatalf("%s, of\n%s:\n%s", s, told(c), told(d))
	}
	return end
}

// holdEnd holds a run that ends so, with these prints.
func holdEnd(t *testing.T, c api.Code, end byte, input []int64, want ...int64) {
	t.Helper()
	d := mustRun(t, c)
	if got := holdRuns(t, c, d, input, 1000); got != end {
		t.Errorf("the run ends with %d, not %d, of %s", got, end, told(c))
	}
	r, _ := trace.Run(d, input, 20000)
	if len(r.Outs)+len(want) > 0 && !slices.Equal(r.Outs, want) {
		t.Errorf("the run prints %v, want %v, of %s", r.Outs, want, told(d))
	}
}

// wantBlocks holds what the blocks of the first function become, all of them.
func wantBlocks(t *testing.T, c api.Code, want ...api.Block) {
	t.Helper()
	got := mustRun(t, c).Funs[0].Blocks
	if !reflect.DeepEqual(got, want) {
		t.Errorf("the blocks are\n%s, want\n%s", told(got), told(want))
	}
}

// left answers how many products and shifts stand in a block of the first function.
func left(c api.Code, block int) int {
	n := 0
	for _, x := range c.Funs[0].Blocks[block].Insts {
		if x.Op == api.Mul || x.Op == api.Shl {
			n++
		}
	}
	return n
}

// wantLeft holds how many products and shifts stand in a block still, and how many phis more than before are in the first function.
func wantLeft(t *testing.T, c api.Code, block, want, sums int) {
	t.Helper()
	d := mustRun(t, c)
	if got, n := left(d, block), Count(d, api.IPhi)-Count(c, api.IPhi); got != want || n != sums {
		t.Errorf("there are %d products and %d sums, want %d and %d, of\n%s:\n%s", got, n, want, sums, told(c), told(d))
	}
}

// wantShown holds what is shown at the mark k in its innermost frame: of each variable its number.
func wantShown(t *testing.T, c api.Code, input []int64, k int, want map[int]int64) {
	t.Helper()
	hold(t, c, input, 1000)
	l, _, e := trace.State(mustRun(t, c), input, k, 20000)
	if e != api.OK {
		t.Fatal("no such mark", k, e)
	}
	had := map[int]int64{}
	for _, s := range l[0].Vars {
		had[s.Var] = s.N
	}
	if !reflect.DeepEqual(had, want) {
		t.Errorf("at the mark %d is shown %v, want %v, of %s", k, had, want, told(c))
	}
}
