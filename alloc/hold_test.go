package alloc_test

import (
	"fmt"
	"math"
	"reflect"
	"slices"
	"testing"

	"teasel/alike"
	"teasel/alloc"
	"teasel/api"
	"teasel/code"
	"teasel/flow"
	"teasel/live"
)

// told is a thing as text, not too long.
func told(x any) string {
	s := fmt.Sprintf("%+v", x)
	return s[:min(len(s), 5000)]
}

// mustSplit answers what plain code becomes, which has the form that the chapter asks for.
func mustSplit(t *testing.T, c api.Code) api.Code {
	t.Helper()
	if !code.Plain(c) {
		t.Fatalf("the code isn't plain: %s", told(c))
	}
	d, e := alloc.Split(c)
	if e != api.OK {
		t.Fatalf("Split answers %d of %s", e, told(c))
	}
	if !code.Plain(d) {
		t.Fatalf("Split doesn't answer plain code: %d, of\n%s:\n%s", code.Check(d), told(c), told(d))
	}
	if s := wrongSplit(c, d); s != "" {
		t.Fatalf("%s, of\n%s:\n%s", s, told(c), told(d))
	}
	return d
}

// wrongSplit tells what the chapter asks for and code hasn't.
func wrongSplit(c, d api.Code) string {
	if d.Main != c.Main || len(d.Funs) != len(c.Funs) || len(d.Stops)+len(c.Stops) > 0 && !reflect.DeepEqual(d.Stops, c.Stops) {
		return "other functions, or other stops"
	}
	for i, f := range c.Funs {
		g := d.Funs[i]
		if g.Params != f.Params || g.Vars != 0 || g.Vals != f.Vals || len(g.Blocks) < len(f.Blocks) {
			return "other parameters, variables or values, or fewer blocks"
		}
		into, _ := flow.Into(code.Graph(g))
		for k, b := range g.Blocks {
			s := wrongNewBlock(f, g, into, k)
			if k < len(f.Blocks) {
				s = wrongOldBlock(f, g, into, k)
			}
			if s != "" {
				return fmt.Sprintf("the block %d of the function %d %s", k, i, s)
			}
			for _, to := range code.Graph(g)[k] {
				if b.End == api.Branch && len(g.Blocks[to].Phis) > 0 && len(into[to]) > 1 {
					return fmt.Sprintf("the block %d of the function %d branches to %d, which has phis", k, i, to)
				}
			}
		}
	}
	return ""
}

// wrongNewBlock: one that wasn't there is empty, and parts a way that had to be parted.
func wrongNewBlock(f, g api.Fun, into [][]int, k int) string {
	b := g.Blocks[k]
	if !reflect.DeepEqual(b, api.Block{End: api.GoTo, To: b.To}) || b.To >= len(f.Blocks) {
		return "isn't an empty one"
	}
	if len(into[k]) != 1 || f.Blocks[into[k][0]].End != api.Branch || len(f.Blocks[b.To].Phis) == 0 {
		return "needn't be there"
	}
	if was, _ := flow.Into(code.Graph(f)); len(was[b.To]) < 2 {
		return "needn't be there, as nobody else comes"
	}
	return ""
}

// wrongOldBlock: one that was there does the same, goes on where it went, and takes from each way what it took.
func wrongOldBlock(f, g api.Fun, into [][]int, k int) string {
	a, b := f.Blocks[k], g.Blocks[k]
	if b.End != a.End || !reflect.DeepEqual(b.Insts, a.Insts) || (b.End == api.Branch || b.End == api.RetVal) && b.Arg != a.Arg {
		return "does something else"
	}
	var ways []int
	for _, to := range code.Graph(g)[k] {
		if to >= len(f.Blocks) {
			to = g.Blocks[to].To
		}
		ways = append(ways, to)
	}
	if !slices.Equal(ways, code.Graph(f)[k]) {
		return "goes on elsewhere"
	}
	was, _ := flow.Into(code.Graph(f))
	if len(a.Phis) != len(b.Phis) || len(into[k]) != len(was[k]) {
		return "has other phis, or other ways in"
	}
	for j, x := range b.Phis {
		y := a.Phis[j]
		for n, from := range into[k] {
			if from >= len(f.Blocks) {
				from = into[from][0]
			}
			if x.Dst != y.Dst || x.Args[n] != y.Args[slices.Index(was[k], from)] {
				return "takes something else"
			}
		}
	}
	return ""
}

// holdSplit holds a run of code against that of what it becomes; it answers how it ends.
func holdSplit(t *testing.T, c api.Code, input []int64, fuel int) byte {
	t.Helper()
	return holdRuns(t, c, mustSplit(t, c), input, fuel, true)
}

func holdRuns(t *testing.T, c, d api.Code, input []int64, fuel int, all bool) byte {
	t.Helper()
	end, s := alike.Runs(c, d, input, fuel, all)
	if s != "" {
		t.Fatalf("%s, of\n%s:\n%s", s, told(c), told(d))
	}
	return end
}

// mustPlace answers where the values of a function stand, which is as the chapter asks for.
func mustPlace(t *testing.T, c api.Code, fn int, all bool) []alloc.Place {
	t.Helper()
	l, e := alloc.Places(c, fn, all)
	if e != api.OK {
		t.Fatalf("Places answers %d of %s", e, told(c))
	}
	pairs, e := live.Clashes(c, fn, all)
	if e != api.OK {
		t.Fatal(e)
	}
	if s := wrongPlaces(c.Funs[fn], l, pairs); s != "" {
		t.Fatalf("%s: the function %d (all %v) of %s:\n%s", s, fn, all, told(c), told(l))
	}
	return l
}

// wrongPlaces tells what the chapter asks for and places haven't.
func wrongPlaces(f api.Fun, l []alloc.Place, pairs [][2]int) string {
	if len(l) != f.Vals {
		return "too many, or too few places"
	}
	made := map[int]bool{}
	for _, b := range f.Blocks {
		for _, x := range append(slices.Clone(b.Phis), b.Insts...) {
			made[x.Dst] = true
		}
	}
	clashes := make([]int, f.Vals)
	for _, p := range pairs {
		clashes[p[0]]++
		clashes[p[1]]++
		if l[p[0]] == l[p[1]] {
			return fmt.Sprintf("%d and %d clash", p[0], p[1])
		}
	}
	few := len(clashes) == 0 || slices.Max(clashes) <= api.Regs-alloc.Spare-1
	for v, p := range l {
		switch {
		case p.Kind == alloc.Nowhere && p.N == 0 && !made[v]:
		case p.Kind == alloc.Register && made[v] && 0 <= p.N && p.N < api.Regs-alloc.Spare:
		case p.Kind == alloc.Slot && made[v] && 0 <= p.N && p.N < f.Vals && !few:
		default:
			return fmt.Sprintf("%d stands in %+v", v, p)
		}
	}
	return ""
}

// count answers how many places are of a kind, and how many unlike ones these are.
func count(l []alloc.Place, kind byte) (int, int) {
	n, unlike := 0, map[alloc.Place]bool{}
	for _, p := range l {
		if p.Kind == kind {
			n++
			unlike[p] = true
		}
	}
	return n, len(unlike)
}

// recovered answers code in which each mark and call knows just what is told of it, which is as the chapter asks for; and how many there are that stayed, became others, and were left out.
func recovered(t *testing.T, c api.Code, all bool) (api.Code, [3]int) {
	t.Helper()
	d := code.Copy(c)
	var n [3]int
	for fn, f := range d.Funs {
		for block, b := range f.Blocks {
			for at, x := range b.Insts {
				if x.Op != api.IMark && x.Op != api.ICall {
					continue
				}
				got, e := alloc.Recovers(c, fn, all, block, at)
				values, _ := live.Ahead(c, fn, all, block, at)
				if e != api.OK {
					t.Fatalf("Recovers answers %d of %s", e, told(c))
				}
				if s := wrongTold(c.Funs[fn], values, x.Dbg, got, &n); s != "" {
					t.Fatalf("%s: by %v, at %d of the block %d of the function %d (all %v) of %s:\n%+v", s, values, at, block, fn, all, told(c), got)
				}
				if all && len(x.Dbg)+len(got) > 0 && !reflect.DeepEqual(got, x.Dbg) {
					t.Fatalf("not all is told of %+v: %+v, in %s", x, got, told(c))
				}
				b.Insts[at].Dbg = got
			}
		}
	}
	if !code.Plain(d) {
		t.Fatalf("what is told isn't plain: %s", told(d))
	}
	return d, n
}

// wrongTold tells what the chapter asks for and isn't told by the values that are live; it adds to n how many stayed, became others, and were left out.
func wrongTold(f api.Fun, values []int, was, got []api.Dbg, n *[3]int) string {
	makers := map[int]api.Inst{}
	for _, b := range f.Blocks {
		for _, x := range append(slices.Clone(b.Phis), b.Insts...) {
			makers[x.Dst] = x
		}
	}
	for _, d := range was {
		if d.Kind == api.DVal && !tells(makers, values, d.Arg) {
			n[2]++
			continue
		}
		if len(got) == 0 {
			return fmt.Sprintf("%+v isn't told", d)
		}
		k := got[0]
		got = got[1:]
		stays := d.Kind == api.DNum || slices.Contains(values, d.Arg)
		switch {
		case k == d && stays:
			n[0]++
		case stays || k.Depth != d.Depth || k.Var != d.Var:
			return fmt.Sprintf("%+v is told of %+v", k, d)
		case k.Kind == api.DNum && k.Arg == 0 && k.A == 0, k.Kind == api.DVal && slices.Contains(values, k.Arg):
			n[1]++
		default:
			return fmt.Sprintf("%+v is told by what isn't live: %+v", d, k)
		}
	}
	if len(got) > 0 {
		return fmt.Sprintf("%+v is told, too", got[0])
	}
	return ""
}

// tells tells by the chapters' words whether a value can be told: it is live, or it is made so.
func tells(makers map[int]api.Inst, values []int, v int) bool {
	x := makers[v]
	number := func(k int) bool { return makers[x.Args[k]].Op == api.IConst }
	can := func(k int) bool { return tells(makers, values, x.Args[k]) }
	if slices.Contains(values, v) {
		return true
	}
	switch x.Op {
	case api.IConst:
		return true
	case api.Neg, api.Not, api.ICopy:
		return can(0)
	case api.Add, api.Sub, api.Mul:
		return number(0) && can(1) || number(1) && can(0)
	case api.Shl:
		return number(1) && can(0)
	}
	return false
}

// holdRecovers holds that what is told at marks and calls has the numbers that it had, in a run; it answers how many stayed, became others, and were left out.
func holdRecovers(t *testing.T, c api.Code, input []int64, fuel int) [3]int {
	t.Helper()
	d, n := recovered(t, c, false)
	holdRuns(t, c, d, input, fuel, n[2] == 0)
	d, _ = recovered(t, c, true)
	holdRuns(t, c, d, input, fuel, true)
	return n
}

// numbers answers a list of them.
func numbers(l ...int64) []int64 {
	return l
}

// edges are numbers at the edges of 64 bits, and others.
func edges() []int64 {
	return numbers(0, 1, 3, -2, 63, 64, 65, -1, 1<<40, math.MinInt64, math.MaxInt64)
}
