package emit_test

import (
	"reflect"
	"testing"

	"teasel/api"
	"teasel/calls"
	"teasel/locs"
	. "teasel/parts"
	"teasel/seen"
	"teasel/vm"
)

// frames answers what is seen of a machine of code's image at its k-th mark, and with which debug information.
func frames(t *testing.T, c api.Code, all bool, input []int64, k int) ([]api.Frame, api.Debug) {
	t.Helper()
	img := mustImage(t, c, all)
	d, e := locs.Decode(img.Debug)
	if e != api.OK {
		t.Fatal(e)
	}
	m, _ := vm.New(img, input)
	for range k {
		if !m.ToMark(9999) {
			t.Fatal("no such mark", k)
		}
	}
	return seen.Frames(img, d, m.Calls()), d
}

// wantShown holds what is shown of the innermost frame's variables at a mark of the first function.
func wantShown(t *testing.T, name string, c api.Code, all bool, input []int64, k int, want map[int]int64) {
	t.Helper()
	l, _ := frames(t, c, all, input, k)
	got := map[int]int64{}
	for _, x := range l[0].Vars {
		got[x.Var] = x.N
	}
	if !reflect.DeepEqual(got, want) {
		t.Errorf("%s: shows %v, not %v", name, got, want)
	}
}

// TestEachKindOfWhatIsKnown: numbers, values that are needed still, and such that aren't, times a number and with one.
func TestEachKindOfWhatIsKnown(t *testing.T) {
	t.Parallel()
	c := Main(Ends(
		Read(0), Read(1), Read(2), Number(3, 100),
		Mark(IsNumber(0, -1<<63), IsNumber(1, 7), IsValue(2, 0, 1, 0), IsValue(3, 0, -3, 1<<62), IsValue(4, 1, 5, 5), IsValue(5, 3, 2, 1), IsValue(6, 2, 0, 9)),
		Show(0), Show(2)))
	few := map[int]int64{0: -1 << 63, 1: 7, 2: 11, 3: 1<<62 - 33, 5: 201, 6: 9}
	all := map[int]int64{4: 65}
	for v, n := range few {
		all[v] = n
	}
	wantShown(t, "all", c, true, nums(11, 12, 13), 1, all)
	wantShown(t, "without all", c, false, nums(11, 12, 13), 1, few)
	wantEnd(t, "kinds", c, nums(11, 12, 13), api.Halt)
}

// TestToldByOthers: what isn't needed any more is told by what it was made from, or by what was made from it, or of the same, wherever that stands; and isn't told where a product lost bits.
func TestToldByOthers(t *testing.T) {
	t.Parallel()
	for _, n := range []int{0, 12, 13, 20} {
		insts, vals := padded(n, 20, []api.Inst{
			Read(0), Number(1, 5), Number(2, 4),
			Inst(api.Add, 3, 0, 1), Inst(api.Mul, 4, 3, 2), Inst(api.Mul, 5, 3, 1), Inst(api.Not, 6, 5), Inst(api.Mul, 7, 0, 0),
			Mark(IsValue(0, 0, 1, 0), IsValue(1, 3, 2, 1), IsValue(2, 4, 1, 0), IsValue(3, 6, 1, 0), IsValue(4, 7, 1, 0)),
			Show(3),
			Mark(IsValue(0, 0, 1, 0), IsValue(1, 3, 2, 1), IsValue(2, 4, 1, 0), IsValue(3, 6, 1, 0), IsValue(4, 7, 1, 0)),
			Show(6), Show(4),
			Mark(IsValue(0, 0, 1, 0), IsValue(2, 4, 1, 0), IsValue(3, 6, 1, 0)),
			Show(4),
			Mark(IsValue(0, 0, 1, 0), IsValue(2, 4, 1, 0)),
		})
		c := Main(Ends(insts...))
		c.Funs[0].Vals = vals
		input := append(make([]int64, n), 7)
		wantShown(t, "by the sum", c, false, input, 1, map[int]int64{0: 7, 1: 25, 2: 48, 3: -61})
		wantShown(t, "by a product with an odd number", c, false, input, 2, map[int]int64{0: 7, 1: 25, 2: 48, 3: -61})
		wantShown(t, "not by four times it", c, false, input, 3, map[int]int64{2: 48})
		wantShown(t, "by nothing", c, false, input, 4, map[int]int64{})
		wantShown(t, "all", c, true, input, 4, map[int]int64{0: 7, 2: 48})
		wantEnd(t, "told by others", c, input, api.Halt)
	}
}

// TestToldInLoops: a counter, behind its step, by what it is next.
func TestToldInLoops(t *testing.T) {
	t.Parallel()
	c := Main(
		Goes(1, Number(0, 3), Number(1, 2), Read(5)),
		Behind(Branch(6, 1, 2,
			Mark(IsValue(0, 2, 1, 0), IsValue(1, 5, 1, 0)),
			Inst(api.Add, 3, 2, 1), Show(3),
			Mark(IsValue(0, 2, 1, 0), IsValue(1, 5, 1, 0)),
			Read(6)), Phi(2, 0, 3)),
		Ends(Mark(IsValue(0, 2, 1, 0), IsValue(1, 3, 1, 0))))
	wantShown(t, "a counter", c, false, nums(8, 1, 0), 3, map[int]int64{0: 5})
	wantShown(t, "behind its step", c, false, nums(8, 1, 0), 4, map[int]int64{0: 5})
	wantShown(t, "behind the loop", c, false, nums(8, 1, 0), 5, map[int]int64{})
	wantEnd(t, "a loop", c, nums(8, 1, 1, 1, 0), api.Halt)
}

// TestFramesBehindFrames: at a mark of several frames, in a call at a call of several, of which each tells its variables.
func TestFramesBehindFrames(t *testing.T) {
	t.Parallel()
	inner := []api.Dbg{IsValue(4, 0, 1, 0), Deeper(2, IsValue(4, 0, 3, 0)), Deeper(1, IsNumber(0, 5)), Deeper(2, IsNumber(1, 6))}
	outer := []api.Dbg{Deeper(1, IsValue(2, 0, 1, 1)), IsValue(3, 1, -1, 0), IsNumber(1, 9), Deeper(1, IsNumber(0, 8))}
	c := Program(
		Fun(0, Ends(Read(0), Read(1), At(1, Call(2, 1, 0, 1), outer...), Show(2), Show(0), Show(1))),
		Fun(2, Answers(0, Param(0, 0), Param(1, 1), At(3, Call(-1, 2, 1), IsValue(7, 1, 1, 0), Deeper(1, IsValue(8, 0, 1, 0))), Show(1))),
		Fun(1, Ends(Param(0, 0), At(2, Mark(), inner...), Show(0))))
	c.Stops[2] = []api.Spot{{Fn: 2, Stmt: 5}, {Fn: 9, Stmt: 6}, {Fn: 8, Stmt: 0}}
	want := []api.Frame{
		{Fn: 2, Stmt: 5, Vars: []api.Shown{{Var: 4, Has: true, N: 20}}},
		{Fn: 9, Stmt: 6, Vars: []api.Shown{{Var: 0, Has: true, N: 5}}},
		{Fn: 8, Stmt: 0, Vars: []api.Shown{{Var: 1, Has: true, N: 6}, {Var: 4, Has: true, N: 60}}},
		{Fn: 0, Stmt: 4, Vars: []api.Shown{{Var: 7, Has: true, N: 20}}},
		{Fn: 7, Stmt: 23, Vars: []api.Shown{{Var: 8, Has: true, N: 10}}},
		{Fn: 1, Stmt: 2, Vars: []api.Shown{{Var: 1, Has: true, N: 9}, {Var: 3, Has: true, N: -20}}},
		{Fn: 7, Stmt: 21, Vars: []api.Shown{{Var: 0, Has: true, N: 8}, {Var: 2, Has: true, N: 11}}},
	}
	for _, all := range []bool{false, true} {
		l, _ := frames(t, c, all, nums(10, 20), 1)
		if !reflect.DeepEqual(l, want) {
			t.Errorf("%+v, want\n%+v", l, want)
		}
	}
	wantEnd(t, "frames", c, nums(10, 20), api.Halt)
}

// TestWhatACallNeedsLast: its arguments are needed by it, so they are told while it is open, though none is needed behind it; in slots, too.
func TestWhatACallNeedsLast(t *testing.T) {
	t.Parallel()
	for n := range 8 {
		var made, used []api.Inst
		call := At(3, Call(50, 1), Deeper(1, IsNumber(9, 9)))
		for v := range 14 + n {
			made = append(made, Read(v), Inst(api.Add, 60+v, v, v))
			call.Dbg = append(call.Dbg, IsValue(v, 60+v, 2, int64(v)))
			if v%3 > 0 || len(call.Args) == api.MaxParams {
				used = append(used, Show(60+v))
			} else {
				call.Args = append(call.Args, 60+v)
			}
		}
		c := Program(
			Fun(0, Answers(50, append(append(made, call), used...)...)),
			Fun(len(call.Args), Answers(0, Param(0, 0), Mark(IsValue(1, 0, 1, 0)))))
		c.Funs[0].Vals = 100
		input := make([]int64, 14+n)
		for v := range input {
			input[v] = int64(v*v + 1)
		}
		for _, all := range []bool{false, true} {
			l, _ := frames(t, c, all, input, 1)
			if len(l) != 3 || len(l[1].Vars) != 14+n {
				t.Fatalf("%d, %v: %+v", n, all, l)
			}
		}
		wantEnd(t, "a call", c, input, api.Halt)
	}
}

// TestTrapsInCalls: the frames of a trap are those of its own stop, in calls, and where a function is done in its place.
func TestTrapsInCalls(t *testing.T) {
	t.Parallel()
	c := Program(
		Fun(0, Answers(2, Read(0), Number(1, 12), Mark(), At(1, Call(2, 1, 1, 0)), Show(2))),
		Fun(2, Answers(2, Param(0, 0), Param(1, 1), At(2, Mark()), At(3, Inst(api.Div, 2, 0, 1)))))
	inner, e := calls.Run(c)
	if e != api.OK || Count(inner, api.ICall) != 0 {
		t.Fatal(e)
	}
	for i, c := range []api.Code{c, inner} {
		wantEnd(t, "a trap", c, nums(0), api.TrapZero)
		wantEnd(t, "no trap", c, nums(5), api.Halt)
		for _, all := range []bool{false, true} {
			img := mustImage(t, c, all)
			d, _ := locs.Decode(img.Debug)
			s := runImage(t, img, nums(0))
			mark, is := seen.Site(d, s.At)
			want := []api.Spot{{Fn: 0, Stmt: 4}, {Fn: 7, Stmt: 23}}
			if i == 1 {
				want = append(want, api.Spot{Fn: 1, Stmt: 2}, api.Spot{Fn: 7, Stmt: 21})
			}
			if got := seen.Spots(d, mark); !is || !reflect.DeepEqual(got, want) {
				t.Error(i, all, got)
			}
		}
	}
}

// TestMarksInEachBlock: of code that turns, and where nothing else is done.
func TestMarksInEachBlock(t *testing.T) {
	t.Parallel()
	c := Main(
		Goes(1, At(0, Mark()), Read(0)),
		Behind(Branch(2, 2, 3, At(1, Mark(IsValue(0, 1, 1, 0))), Read(2)), Phi(1, 0, 1, 5)),
		Branch(4, 1, 4, At(2, Mark(IsValue(0, 1, 1, 0), IsValue(1, 2, 1, 0))), Read(4)),
		Ends(At(3, Mark(IsValue(0, 1, 1, 0)))),
		Goes(1, At(4, Mark(IsValue(0, 1, 1, 0))), Inst(api.Add, 5, 1, 1), At(5, Mark(IsValue(0, 5, 1, 0), IsValue(2, 1, 1, 0)))))
	wantEnd(t, "marks", c, nums(3, 1, 1, 1, 0, 1, 0, 0), api.Halt)
	wantEnd(t, "marks", c, nums(3, 1, 1, 1), api.TrapIn)
}
