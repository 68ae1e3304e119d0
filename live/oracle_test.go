package live_test

import (
	"fmt"
	"reflect"
	"slices"
	"testing"

	"teasel/api"
	"teasel/code"
	"teasel/flow"
	"teasel/live"
)

// told is a thing as text, not too long.
func told(x any) string {
	s := fmt.Sprintf("%+v", x)
	return s[:min(len(s), 5000)]
}

// oracle tells by the chapter's words where values of a function are live: it looks for a way from a point to a use.
type oracle struct {
	api.Fun
	all   bool
	graph [][]int
	into  [][]int
	found map[point][]int // what was found already
	been  map[point]int   // where the ways that were looked for last have been
	looks int
}

// point is behind so many instructions of a block; behind one more than it has, it is the block's end.
type point struct {
	block  int
	behind int
}

func newOracle(f api.Fun, all bool) *oracle {
	g := code.Graph(f)
	into, _ := flow.Into(g)
	return &oracle{Fun: f, all: all, graph: g, into: into, found: map[point][]int{}, been: map[point]int{}}
}

// uses tells whether an instruction uses a value.
func (o *oracle) uses(x api.Inst, v int) bool {
	if slices.Contains(x.Args, v) {
		return true
	}
	return o.all && (x.Op == api.IMark || x.Op == api.ICall) && slices.ContainsFunc(x.Dbg, func(d api.Dbg) bool { return d.Kind == api.DVal && d.Arg == v })
}

// leads tells whether a way leads from a point to a use of a value, which doesn't come to where it is made.
func (o *oracle) leads(v int, p point) bool {
	if o.been[p] == o.looks {
		return false
	}
	o.been[p] = o.looks
	b := o.Blocks[p.block]
	onward := point{p.block, p.behind + 1}
	switch {
	case p.behind < len(b.Insts):
		x := b.Insts[p.behind]
		return o.uses(x, v) || x.Dst != v && o.leads(v, onward)
	case p.behind == len(b.Insts):
		return (b.End == api.Branch || b.End == api.RetVal) && b.Arg == v || o.leads(v, onward)
	}
	for _, to := range o.graph[p.block] {
		made := false
		for _, x := range o.Blocks[to].Phis {
			if x.Args[slices.Index(o.into[to], p.block)] == v {
				return true
			}
			made = made || x.Dst == v
		}
		if !made && o.leads(v, point{to, 0}) {
			return true
		}
	}
	return false
}

// at answers the values that are live at a point, rising.
func (o *oracle) at(p point) []int {
	l, had := o.found[p]
	if had {
		return l
	}
	for v := range o.Vals {
		o.looks++
		if o.leads(v, p) {
			l = append(l, v)
		}
	}
	o.found[p] = l
	return l
}

// clashes answers the pairs that clash.
func (o *oracle) clashes() [][2]int {
	pairs := map[[2]int]bool{}
	add := func(v, w int) {
		if v != w {
			pairs[[2]int{min(v, w), max(v, w)}] = true
		}
	}
	for i, b := range o.Blocks {
		beginning := o.at(point{i, 0})
		for _, x := range b.Phis {
			for _, v := range beginning {
				add(x.Dst, v)
			}
			for _, y := range b.Phis {
				add(x.Dst, y.Dst)
			}
		}
		for at, x := range b.Insts {
			if x.Dst == -1 {
				continue
			}
			for _, v := range o.at(point{i, at + 1}) {
				add(x.Dst, v)
			}
		}
	}
	var l [][2]int
	for p := range pairs {
		l = append(l, p)
	}
	slices.SortFunc(l, func(p, q [2]int) int { return slices.Compare(p[:], q[:]) })
	return l
}

// wantOracle holds all that is told of code against the oracle.
func wantOracle(t *testing.T, c api.Code) {
	t.Helper()
	for fn, f := range c.Funs {
		for _, all := range []bool{false, true} {
			o := newOracle(f, all)
			begins, ends, e := live.Ends(c, fn, all)
			if e != api.OK || len(begins) != len(f.Blocks) || len(ends) != len(f.Blocks) {
				t.Fatal(e, len(begins), len(ends), told(c))
			}
			for i, b := range f.Blocks {
				wantAt(t, o, point{i, 0}, begins[i])
				wantAt(t, o, point{i, len(b.Insts) + 1}, ends[i])
				for at := range b.Insts {
					l, e := live.Ahead(c, fn, all, i, at)
					if e != api.OK {
						t.Fatal(e, told(c))
					}
					wantAt(t, o, point{i, at}, l)
				}
			}
			pairs, e := live.Clashes(c, fn, all)
			if want := o.clashes(); e != api.OK || len(pairs)+len(want) > 0 && !reflect.DeepEqual(pairs, want) {
				t.Fatalf("%v: %d, %v clash, want %v, in %s", all, e, pairs, want, told(f))
			}
		}
	}
}

func wantAt(t *testing.T, o *oracle, p point, l []int) {
	t.Helper()
	if want := o.at(p); !slices.Equal(l, want) {
		t.Fatalf("all %v: at %+v are live %v, want %v, in %s", o.all, p, l, want, told(o.Fun))
	}
}
