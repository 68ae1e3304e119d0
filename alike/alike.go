// Package alike holds runs of code that a pass made against runs of the code that was handed in to it, for tests: by P10.2, which is so of all passes. It also holds how loops are entered.
package alike

import (
	"slices"
	"strconv"

	"teasel/api"
	"teasel/code"
	"teasel/flow"
	"teasel/trace"
)

// Enough answers how much fuel is enough for a run of what a pass makes of code, a run of which takes so many steps.
func Enough(c api.Code, steps int) int {
	n := code.Size(c) + 10
	for _, f := range c.Funs {
		n += len(f.Blocks)
	}
	return min(api.MaxFuel, (steps+1)*n)
}

// Runs answers how a run of c ends, and how that of d, which a pass made of c, isn't like it: "", if it is. If all is asked for, each variable that c shows must be shown. A run that goes Wrong, or for which the fuel isn't enough, may end otherwise.
func Runs(c, d api.Code, input []int64, fuel int, all bool) (byte, string) {
	want, e := trace.Run(c, input, fuel)
	if e != api.OK {
		return 0, "no run of it: " + strconv.Itoa(int(e))
	}
	if want.End == api.Wrong {
		return want.End, ""
	}
	much := Enough(c, want.Steps)
	got, e := trace.Run(d, input, much)
	if e != api.OK {
		return want.End, "no run of what was made of it: " + strconv.Itoa(int(e))
	}
	if want.End != api.StopFuel {
		if s := ends(c, d, want, got); s != "" {
			return want.End, s
		}
	} else if len(got.Outs) < len(want.Outs) || !slices.Equal(got.Outs[:len(want.Outs)], want.Outs) || got.Marks < want.Marks {
		return want.End, "another beginning"
	}
	for k := 1; k <= want.Marks; k++ {
		// Of a long run its beginning and its end tell enough.
		if k > 30 && k <= want.Marks-3 {
			continue
		}
		a, n, _ := trace.State(c, input, k, fuel)
		b, m, _ := trace.State(d, input, k, much)
		if s := states(a, b, all); s != "" || n != m {
			return want.End, s + " at the mark " + strconv.Itoa(k) + ", behind " + strconv.Itoa(m) + " prints, not " + strconv.Itoa(n)
		}
	}
	return want.End, ""
}

// ends tells how an end isn't the one that it must be.
func ends(c, d api.Code, want, got trace.Result) string {
	switch {
	case got.End != want.End:
		return "the end " + strconv.Itoa(int(got.End)) + ", not " + strconv.Itoa(int(want.End))
	case got.Exit != want.Exit:
		return "the exit " + strconv.FormatInt(got.Exit, 10) + ", not " + strconv.FormatInt(want.Exit, 10)
	case !slices.Equal(got.Outs, want.Outs):
		return "other prints"
	case got.Marks != want.Marks:
		return strconv.Itoa(got.Marks) + " marks, not " + strconv.Itoa(want.Marks)
	case got.Calls > want.Calls:
		return strconv.Itoa(got.Calls) + " calls, not " + strconv.Itoa(want.Calls)
	}
	switch want.End {
	case api.TrapZero, api.TrapCell, api.TrapIn:
		if d.Stops[got.Stop][0] != c.Stops[want.Stop][0] {
			return "a trap elsewhere"
		}
	}
	return ""
}

// states tells how a state isn't the one that it must be.
func states(want, got []api.Frame, all bool) string {
	if len(want) != len(got) {
		return strconv.Itoa(len(got)) + " frames, not " + strconv.Itoa(len(want))
	}
	for i, f := range want {
		g := got[i]
		if g.Fn != f.Fn || g.Stmt != f.Stmt {
			return "another frame " + strconv.Itoa(i)
		}
		for _, s := range g.Vars {
			if !slices.ContainsFunc(f.Vars, func(x api.Shown) bool { return x.Var == s.Var && x.Has == s.Has && x.N == s.N }) {
				return "the frame " + strconv.Itoa(i) + " shows the variable " + strconv.Itoa(s.Var) + " as " + strconv.FormatInt(s.N, 10)
			}
		}
		if all && len(g.Vars) != len(f.Vars) {
			return "the frame " + strconv.Itoa(i) + " shows too few variables"
		}
	}
	return ""
}

// Entered tells how a loop of a function isn't entered from one block outside it, which goes on to its head alone; "" if each one is.
func Entered(f api.Fun) string {
	g := code.Graph(f)
	loops, _ := flow.Loops(g)
	from, _ := flow.Into(g)
	for _, l := range loops {
		outside := 0
		for _, head := range l.Nodes {
			for _, block := range from[head] {
				if _, in := slices.BinarySearch(l.Nodes, block); in {
					continue
				}
				outside++
				if head != l.Head || outside > 1 || len(g[block]) != 1 {
					return "the loop of the block " + strconv.Itoa(l.Head) + " is entered from the block " + strconv.Itoa(block)
				}
			}
		}
	}
	return ""
}
