package calls_test

import (
	"reflect"
	"testing"

	"teasel/api"
	. "teasel/parts"
	"teasel/trace"
)

// TestFramesOfBoth: stops of one frame and of two, in the function that is called and in the one that calls, with what is known of each Depth.
func TestFramesOfBoth(t *testing.T) {
	for _, inner := range []int{2, 3} {
		for _, outer := range []int{4, 5} {
			mark, call := At(inner, Mark(), IsValue(1, 2, -1, 3), IsNumber(0, 4)), At(outer, Call(3, 1, 1, 0), IsValue(1, 2, 2, 0), IsValue(0, 0, 1, 0))
			var want []api.Frame
			want = append(want, frame(inner%3, inner+1, 4, -5*6+3))
			if inner == 3 {
				mark.Dbg = append(mark.Dbg, Deeper(1, IsValue(1, 0, 1, 0)), Deeper(1, IsValue(0, 1, 1, 1)))
				want = append(want, frame(7, 23, 6, 6))
			}
			want = append(want, frame(outer%3, outer+1, 5, 22))
			if outer == 5 {
				call.Dbg = append([]api.Dbg{Deeper(1, IsNumber(1, 9)), Deeper(1, IsValue(0, 1, 1, 1))}, call.Dbg...)
				want = append(want, frame(7, 25, 7, 9))
			}
			c := Program(
				Fun(0, Ends(Read(0), Number(1, 6), Inst(api.Add, 2, 0, 1), call, Show(3))),
				Fun(2, Answers(2, Param(0, 0), Param(1, 1), Inst(api.Mul, 2, 0, 1), mark)))
			wantCalls(t, c, 0, 0)
			holdEnd(t, c, api.Halt, nums(5), 30)
			d := mustRun(t, c)
			wantFrames(t, c, nums(5), 1, want...)
			if l := d.Stops[len(c.Stops):]; len(l) != 1 || len(l[0]) != len(want) {
				t.Errorf("%+v", l)
			}
		}
	}
}

// TestFramesOfOuterCalls: behind those of what is done in place stand those of the calls that are calls still.
func TestFramesOfOuterCalls(t *testing.T) {
	c := Program(
		Fun(0, Ends(Read(0), At(1, Call(1, 1, 0), IsValue(0, 0, 1, 0), Deeper(1, IsValue(0, 0, 2, 0))), At(2, Mark(), IsValue(0, 1, 1, 0)))),
		Fun(1, Answers(2, Param(0, 0), Inst(api.Neg, 1, 0), At(4, Call(2, 2, 1), IsValue(0, 0, 1, 0), IsValue(1, 1, 1, 0)))),
		Fun(1, Answers(1, Param(0, 0), At(6, Mark(), IsValue(0, 0, 1, 0)), Inst(api.Not, 1, 0), At(7, Mark(), Deeper(1, IsValue(0, 1, 1, 0))))))
	wantCalls(t, c, 1, 0, 0)
	wantFrames(t, c, nums(5), 1, frame(0, 7, -5), frame(1, 5, 5, -5), frame(1, 2, 5), frame(7, 21, 10))
	wantFrames(t, c, nums(5), 2, frame(1, 8), frame(7, 27, 4), frame(1, 5, 5, -5), frame(1, 2, 5), frame(7, 21, 10))
	wantFrames(t, c, nums(5), 3, frame(2, 3, 4))
}

// TestKnownWhereverTheMarkStands: in each block of the function, in its loops, and from call to call what it was at that call.
func TestKnownWhereverTheMarkStands(t *testing.T) {
	mark := func(v int) api.Inst { return At(6, Mark(), IsValue(0, v, 1, 0)) }
	f := Fun(1,
		Goes(1, Param(0, 0), Number(1, 1), mark(0)),
		Behind(Branch(2, 2, 3, mark(2)), Phi(2, 0, 3)),
		Goes(1, Inst(api.Sub, 3, 2, 1), mark(3)),
		Answers(1, mark(2)))
	c := Program(
		Fun(0,
			Goes(1, Read(0), Number(1, 1)),
			Behind(Branch(4, 1, 2, At(2, Call(3, 1, 2), IsValue(0, 2, 1, 0), IsValue(1, 0, 1, 0)), Inst(api.Sub, 4, 2, 3)), Phi(2, 0, 4)),
			Ends()),
		f)
	wantCalls(t, c, 0, 0)
	hold(t, c, nums(3), 99)
	var got []int64
	for k := 1; ; k++ {
		l, _, e := trace.State(mustRun(t, c), nums(2), k, 999)
		if e != api.OK {
			break
		}
		if len(l) != 2 || l[1].Fn != 2 || l[1].Stmt != 3 || len(l[1].Vars) != 2 || l[1].Vars[1].N != 2 {
			t.Fatalf("%+v", l)
		}
		got = append(got, 10*l[1].Vars[0].N+l[0].Vars[0].N)
	}
	if want := nums(22, 22, 21, 21, 20, 20, 20, 11, 11, 10, 10, 10); !reflect.DeepEqual(got, want) {
		t.Errorf("%v, want %v", got, want)
	}
}

// TestMarksOfTheCallerStay: ahead of the call, and behind it, with what it answered.
func TestMarksOfTheCallerStay(t *testing.T) {
	f := Fun(1, Branch(0, 1, 2, Param(0, 0), Number(1, 4)), Answers(1), Ends())
	c := Program(Fun(0, Ends(Read(0), At(1, Mark(), IsValue(0, 0, 1, 0)), At(2, Call(1, 1, 0)), At(3, Mark(), IsValue(0, 0, 1, 0), IsValue(1, 1, 2, 1), Deeper(1, IsValue(0, 1, 1, 0))))), f)
	wantCalls(t, c, 0, 0)
	wantFrames(t, c, nums(5), 1, frame(1, 2, 5), frame(7, 21))
	wantFrames(t, c, nums(5), 2, frame(0, 4, 5, 9), frame(7, 23, 4))
	wantFrames(t, c, nums(0), 2, frame(0, 4, 0, 1), frame(7, 23, 0))
	if d := mustRun(t, c); len(d.Stops) != len(c.Stops) {
		t.Errorf("%+v", d.Stops)
	}
}

// TestStopsOfTwoCalls: each has its own, and two instructions at one stop, called at one, share theirs.
func TestStopsOfTwoCalls(t *testing.T) {
	c := Program(
		Fun(0, Ends(Read(0), At(2, Call(1, 1, 0)), At(4, Call(2, 1, 0)), At(2, Call(3, 1, 0)))),
		Fun(1, Answers(1, Param(0, 0), At(6, Mark()), At(6, Inst(api.Div, 1, 0, 0)), At(0, Mark()))))
	wantCalls(t, c, 0, 0)
	hold(t, c, nums(3), 99)
	hold(t, c, nums(0), 99)
	want := [][]api.Spot{{{Fn: 0, Stmt: 7}, {Fn: 2, Stmt: 3}}, {{Fn: 0, Stmt: 1}, {Fn: 2, Stmt: 3}}, {{Fn: 0, Stmt: 7}, {Fn: 1, Stmt: 5}}, {{Fn: 0, Stmt: 1}, {Fn: 1, Stmt: 5}}}
	if d := mustRun(t, c); !reflect.DeepEqual(d.Stops[8:], want) {
		t.Errorf("%+v, want %+v", d.Stops[8:], want)
	}
}
