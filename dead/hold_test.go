package dead_test

import (
	"fmt"
	"reflect"
	"slices"
	"testing"

	"teasel/alike"
	"teasel/api"
	"teasel/code"
	"teasel/dead"
	"teasel/trace"
)

// told is a thing as text, not too long.
func told(x any) string {
	s := fmt.Sprintf("%+v", x)
	return s[:min(len(s), 5000)]
}

func nums(l ...int64) []int64 {
	return l
}

// mustRun answers what plain code becomes, which has the form that the chapter asks for.
func mustRun(t *testing.T, c api.Code) api.Code {
	t.Helper()
	if !code.Plain(c) {
		t.Fatalf("the code isn't plain: %s", told(c))
	}
	d, e := dead.Run(c)
	if e != api.OK {
		t.Fatalf("Run answers %d of %s", e, told(c))
	}
	if !code.Plain(d) {
		t.Fatalf("Run doesn't answer plain code: %d, of\n%s:\n%s", code.Check(d), told(c), told(d))
	}
	if s := wrongForm(c, d); s != "" {
		t.Fatalf("%s, of\n%s:\n%s", s, told(c), told(d))
	}
	return d
}

// wrongForm tells what the chapter asks for and code hasn't.
func wrongForm(c, d api.Code) string {
	if d.Main != c.Main || len(d.Funs) != len(c.Funs) || len(d.Stops)+len(c.Stops) > 0 && !reflect.DeepEqual(d.Stops, c.Stops) {
		return "other functions, or other stops"
	}
	for i, f := range c.Funs {
		g := d.Funs[i]
		if g.Params != f.Params || len(g.Blocks) != len(f.Blocks) {
			return "other parameters, or other blocks"
		}
		n := needed(g)
		had := needed(f)
		for k, b := range g.Blocks {
			a := f.Blocks[k]
			if b.End != a.End || b.To != a.To || b.Else != a.Else || b.Arg != a.Arg {
				return fmt.Sprintf("the block %d ends otherwise", k)
			}
			if s := wrongList(f, n, had, a.Phis, b.Phis) + wrongList(f, n, had, a.Insts, b.Insts); s != "" {
				return s
			}
		}
	}
	return ""
}

// wrongList tells what is wrong with what a list of instructions of a function became; n are the values that are needed in what the function became, had those that were in it.
func wrongList(f api.Fun, n, had map[int]bool, all, left []api.Inst) string {
	for _, x := range all {
		stays := x.Dst != -1 && had[x.Dst] || mustStay(x.Op)
		if len(left) == 0 || !sameInst(x, left[0]) {
			if stays {
				return fmt.Sprintf("%+v is gone", x)
			}
			continue
		}
		y := left[0]
		left = left[1:]
		if !mustStay(y.Op) && !n[y.Dst] {
			return fmt.Sprintf("nobody needs %+v", y)
		}
		if y.Op != api.IMark && y.Op != api.ICall {
			continue
		}
		if s := wrongKnown(f, had, x.Dbg, y.Dbg); s != "" {
			return s
		}
	}
	if len(left) > 0 {
		return fmt.Sprintf("%+v wasn't there", left[0])
	}
	return ""
}

// sameInst tells whether two are the same, but for what is known.
func sameInst(x, y api.Inst) bool {
	return x.Op == y.Op && x.Dst == y.Dst && slices.Equal(x.Args, y.Args) && x.Imm == y.Imm && x.Site == y.Site
}

// mustStay: by the chapter's words.
func mustStay(op byte) bool {
	return !code.Pure(op) && op != api.IParam && op != api.ITop && op != api.IPhi
}

// needed answers the values that are needed: it looks at all again and again, till none is found any more.
func needed(f api.Fun) map[int]bool {
	n := map[int]bool{}
	for size := -1; size < len(n); {
		size = len(n)
		for _, b := range slices.Backward(f.Blocks) {
			if b.End == api.Branch || b.End == api.RetVal {
				n[b.Arg] = true
			}
			for _, x := range slices.Backward(append(slices.Clone(b.Phis), b.Insts...)) {
				if mustStay(x.Op) || n[x.Dst] {
					for _, v := range x.Args {
						n[v] = true
					}
				}
			}
		}
	}
	return n
}

// wrongKnown tells which variable isn't known any more that the chapter asks for.
func wrongKnown(f api.Fun, n map[int]bool, was, is []api.Dbg) string {
	makers := map[int]api.Inst{}
	for _, b := range f.Blocks {
		for _, x := range append(slices.Clone(b.Phis), b.Insts...) {
			makers[x.Dst] = x
		}
	}
	for _, d := range was {
		if d.Kind == api.DVal && !tells(makers, n, d.Arg) {
			continue
		}
		if !slices.ContainsFunc(is, func(k api.Dbg) bool { return k.Depth == d.Depth && k.Var == d.Var }) {
			return fmt.Sprintf("nothing is known any more of %+v", d)
		}
	}
	return ""
}

// tells tells by the chapter's words whether a value can be told: it isn't gone, or it is made so.
func tells(makers map[int]api.Inst, n map[int]bool, v int) bool {
	x := makers[v]
	number := func(v int) bool { return makers[v].Op == api.IConst }
	switch {
	case n[v] || mustStay(x.Op):
		return true
	case x.Op == api.IConst:
		return true
	case x.Op == api.Neg || x.Op == api.Not || x.Op == api.ICopy:
		return tells(makers, n, x.Args[0])
	case x.Op == api.Add || x.Op == api.Sub || x.Op == api.Mul:
		return number(x.Args[0]) && tells(makers, n, x.Args[1]) || number(x.Args[1]) && tells(makers, n, x.Args[0])
	case x.Op == api.Shl:
		return number(x.Args[1]) && tells(makers, n, x.Args[0])
	}
	return false
}

// hold holds a run of code against that of what it becomes; it answers how it ends.
func hold(t *testing.T, c api.Code, input []int64, fuel int) byte {
	t.Helper()
	return holdRuns(t, c, mustRun(t, c), input, fuel)
}

func holdRuns(t *testing.T, c, d api.Code, input []int64, fuel int) byte {
	t.Helper()
	end, s := alike.Runs(c, d, input, fuel, false)
	if s != "" {
		t.Fatalf("%s, of\n%s:\n%s", s, told(c), told(d))
	}
	return end
}

// holdEnd holds a run that ends so, with these prints.
func holdEnd(t *testing.T, c api.Code, end byte, input []int64, want ...int64) {
	t.Helper()
	d := mustRun(t, c)
	if got := holdRuns(t, c, d, input, 1000); got != end {
		t.Errorf("the run ends with %d, not %d, of %s", got, end, told(c))
	}
	r, _ := trace.Run(d, input, 20000)
	if len(r.Outs)+len(want) > 0 && !slices.Equal(r.Outs, want) {
		t.Errorf("the run prints %v, want %v, of %s", r.Outs, want, told(d))
	}
}

// wantStays holds which values the first function makes still.
func wantStays(t *testing.T, c api.Code, want ...int) {
	t.Helper()
	var got []int
	for _, b := range mustRun(t, c).Funs[0].Blocks {
		for _, x := range append(slices.Clone(b.Phis), b.Insts...) {
			if x.Dst != -1 {
				got = append(got, x.Dst)
			}
		}
	}
	slices.Sort(got)
	if !slices.Equal(got, want) {
		t.Errorf("the values %v stay, want %v, of %s", got, want, told(c))
	}
}

// wantShown holds what is shown at the mark k in its innermost frame: of each variable its number.
func wantShown(t *testing.T, c api.Code, input []int64, k int, want map[int]int64) {
	t.Helper()
	hold(t, c, input, 1000)
	l, _, e := trace.State(mustRun(t, c), input, k, 20000)
	if e != api.OK {
		t.Fatal("no such mark", k, e)
	}
	had := map[int]int64{}
	for _, s := range l[0].Vars {
		had[s.Var] = s.N
	}
	if !reflect.DeepEqual(had, want) {
		t.Errorf("at the mark %d is shown %v, want %v, of %s", k, had, want, told(c))
	}
}
