package vm_test

import (
	"math"
	"reflect"
	"testing"

	"teasel/api"
	"teasel/vm"
)

// TestArguments: from none to as many as may be laid ready, in their order.
func TestArguments(t *testing.T) {
	for n := range api.MaxParams + 1 {
		var main, f []api.Word
		var want []int64
		for i := range n {
			main = append(main, number(1, int64(10+i)), op(api.MArg, 1))
			f = append(f, with(api.MGive, int64(i), 2), shows(2))
			want = append(want, int64(10+i))
		}
		main = append(main, with(api.MCall, 1, 3), op(api.MRet, 3))
		all := several(main, append(f, op(api.MRet, 2)))
		wantOuts(t, all, nil, want...)
		// One argument more than there are.
		more := several(main, append(f, with(api.MGive, int64(n), 2), op(api.MRet, 2)))
		wantEnd(t, more, nil, api.Wrong, len(main)+len(f), want...)
	}
}

// TestMostArguments: MaxParams are laid ready, then one more.
func TestMostArguments(t *testing.T) {
	var l []api.Word
	for range api.MaxParams {
		l = append(l, op(api.MArg, 1))
	}
	wantEnd(t, alone(0, append(l, op(api.MRet, 1))...), nil, api.Halt, api.MaxParams)
	wantEnd(t, alone(0, append(l, op(api.MArg, 1))...), nil, api.Wrong, api.MaxParams)
	// Behind a call as many may be laid ready again.
	again := append(append(append(l, with(api.MCall, 1, 2)), l...), op(api.MRet, 1))
	wantOuts(t, several(again, []api.Word{op(api.MRet, 1)}), nil)
	wantEnd(t, several(append(again[:len(again)-1:len(again)-1], op(api.MArg, 1)), []api.Word{op(api.MRet, 1)}), nil, api.Wrong, 2*api.MaxParams+1)
}

// TestArgumentsAreACallsOwn: what is laid ready for one isn't another one's, nor does a call begin with what its caller lays.
func TestArgumentsAreACallsOwn(t *testing.T) {
	f := []api.Word{with(api.MGive, 0, 1), shows(1), number(2, 99), op(api.MArg, 2), with(api.MCall, 2, 3), with(api.MGive, 0, 1), shows(1), op(api.MRet, 3)}
	g := []api.Word{with(api.MGive, 0, 1), shows(1), op(api.MArg, 1), op(api.MArg, 1), op(api.MRet, 1)} // what it lays ready is for nobody
	main := []api.Word{number(1, 5), op(api.MArg, 1), with(api.MCall, 1, 4), shows(4), number(1, 6), op(api.MArg, 1), with(api.MCall, 2, 4), shows(4), with(api.MCall, 2, 4)}
	wantEnd(t, several(main, f, g), nil, api.Wrong, len(main)+len(f), 5, 99, 5, 99, 6, 6)
	wantEnd(t, alone(0, op(api.MArg, 1), with(api.MGive, 0, 1)), nil, api.Wrong, 1)
	wantEnd(t, alone(0, with(api.MGive, 0, 1)), nil, api.Wrong, 0)
}

// TestAnswers: into the register that the call says, and no other; all others, and the slots, are a call's own, at first 0.
func TestAnswers(t *testing.T) {
	f := []api.Word{shows(7), shows(8), with(api.MIn, 1, 3), shows(3), number(7, 70), number(8, 80), with(api.MOut, 1, 8), op(api.MRet, 8)}
	main := []api.Word{number(7, 1), number(8, 2), with(api.MOut, 1, 7), with(api.MCall, 1, 15), shows(15), shows(7), shows(8), with(api.MCall, 1, 7), shows(7), with(api.MIn, 1, 3), shows(3), op(api.MRet, 0)}
	img := several(main, f)
	img.Entries[0].Slots, img.Entries[1].Slots = 2, 2
	wantOuts(t, img, nil, 0, 0, 0, 80, 1, 2, 0, 0, 0, 80, 1)
}

// TestReturns: of Main, and of calls within calls, each goes on behind its own.
func TestReturns(t *testing.T) {
	f := []api.Word{with(api.MCall, 2, 1), op(api.Add, 1, 1, 1), op(api.MRet, 1)}
	g := []api.Word{number(1, 21), op(api.MRet, 1), op(api.MRet, 0)}
	img := several([]api.Word{with(api.MCall, 1, 1), shows(1), op(api.MRet, 1)}, f, g)
	wantOuts(t, img, nil, 42)
	if s := ahead(t, img, nil, 8).Status(); s.End != api.Halt || s.Exit != 42 || s.At != 2 {
		t.Error(s)
	}
	for _, n := range ends64() {
		if s := ahead(t, alone(0, number(9, n), op(api.MRet, 9)), nil, 2).Status(); s.End != api.Halt || s.Exit != n {
			t.Error(s)
		}
	}
}

// TestMainNeedNotBeTheFirst: nor begin at 0.
func TestMainNeedNotBeTheFirst(t *testing.T) {
	img := several([]api.Word{number(1, 5), op(api.MRet, 1)}, []api.Word{with(api.MCall, 0, 2), shows(2), op(api.MRet, 2)})
	img.Main = 1
	wantOuts(t, img, nil, 5)
	wantTold(t, begin(t, img, nil), moment{calls: []vm.Call{{Fn: 1, Regs: make([]int64, api.Regs)}}})
}

// TestFunctionsThatCanNotBeCalled: there is none, or it has a number of slots that none has.
func TestFunctionsThatCanNotBeCalled(t *testing.T) {
	for fn, end := range map[int64]byte{0: api.Halt, 1: api.Halt, 2: api.Wrong, 3: api.Wrong, -1: api.Wrong, math.MaxInt64: api.Wrong, math.MinInt64: api.Wrong} {
		img := several([]api.Word{with(api.MZero, 3, 0), op(api.MRet, 0), op(api.MRet, 0), with(api.MCall, fn, 1), op(api.MRet, 1)}, []api.Word{op(api.MRet, 0)})
		if fn == 0 {
			img = several([]api.Word{op(api.MRead, 0), with(api.MZero, 3, 0), op(api.MRet, 0), with(api.MCall, fn, 1), op(api.MRet, 1)})
			wantEnd(t, img, []int64{0, 1}, end, 4)
			continue
		}
		at := 3
		if end == api.Halt {
			at = 4
		}
		wantEnd(t, img, nil, end, at)
	}
	for slots, end := range map[int]byte{0: api.Halt, api.MaxSlots: api.Halt, api.MaxSlots + 1: api.Wrong, -1: api.Wrong, math.MaxInt: api.Wrong, math.MinInt: api.Wrong} {
		img := several([]api.Word{with(api.MCall, 1, 1), op(api.MRet, 1)}, []api.Word{op(api.MRet, 0)})
		img.Entries[1].Slots = slots
		at := 0
		if end == api.Halt {
			at = 1
		}
		wantEnd(t, img, nil, end, at)
	}
}

// nested is a Main that calls itself as often as its first number says, and does a word then.
func nested(w api.Word) api.Image {
	img := several([]api.Word{op(api.MRead, 1), with(api.MZero, 4, 1), with(api.MCall, 0, 2), op(api.MRet, 2), w, op(api.MRet, 2)}, []api.Word{op(api.MRet, 0)})
	img.Entries = append(img.Entries, api.Entry{Slots: -1})
	return img
}

// TestTheMostCalls: MaxCalls may be open, and not one more; what can't be called at all is wrong, whatever else is.
func TestTheMostCalls(t *testing.T) {
	for open, want := range map[int]map[int64]byte{
		api.MaxCalls - 1: {1: api.Halt, 2: api.Wrong, 3: api.Wrong},
		api.MaxCalls:     {1: api.StopCall, 2: api.Wrong, 3: api.Wrong, math.MaxInt64: api.Wrong, -1: api.Wrong},
	} {
		var input []int64
		for range open - 1 {
			input = append(input, 1)
		}
		input = append(input, 0)
		for fn, end := range want {
			at := 4
			if end == api.Halt {
				at = 3
			}
			wantEnd(t, nested(with(api.MCall, fn, 2)), input, end, at)
			m := begin(t, nested(with(api.MCall, fn, 2)), input)
			m.Run(3*open - 1)
			if n := len(m.Calls()); n != open {
				t.Error("so many calls are open:", n)
			}
			m.Run(1)
			if n := len(m.Calls()); end != api.Halt && n != open {
				t.Error("so many calls are open:", n)
			}
		}
	}
}

// TestACallThatStopsTakesNothing: what was laid ready stays.
func TestACallThatStopsTakesNothing(t *testing.T) {
	img := alone(3, op(api.MArg, 1), with(api.MCall, 0, 1))
	l := hold(t, img, nil, 500)
	last := l[len(l)-1]
	if last.status.End != api.StopCall || last.status.Steps != 200 || len(last.calls) != 100 {
		t.Error(last.status)
	}
}

// TestCallsAreToldTheInnermostFirst: each where it is.
func TestCallsAreToldTheInnermostFirst(t *testing.T) {
	main := []api.Word{number(1, 5), with(api.MOut, 1, 1), with(api.MCall, 1, 2), shows(2), op(api.MRet, 2)}
	f := []api.Word{number(3, 6), with(api.MCall, 2, 4), op(api.MRet, 4)}
	g := []api.Word{number(9, 8), with(api.MOut, 0, 9), op(api.MRet, 9)}
	img := several(main, f, g)
	img.Entries[0].Slots, img.Entries[2].Slots = 2, 1
	regs := func(pairs ...int64) []int64 {
		l := make([]int64, api.Regs)
		for i := 0; i < len(pairs); i += 2 {
			l[pairs[i]] = pairs[i+1]
		}
		return l
	}
	outer := vm.Call{Fn: 0, At: 2, Regs: regs(1, 5), Slots: []int64{0, 5}}
	middle := vm.Call{Fn: 1, At: 6, Regs: regs(3, 6)}
	for steps, want := range map[int][]vm.Call{
		0: {{Fn: 0, At: 0, Regs: regs(), Slots: []int64{0, 0}}},
		2: {{Fn: 0, At: 1, Regs: regs(1, 5), Slots: []int64{0, 5}}},
		3: {{Fn: 1, At: 2, Regs: regs()}, outer},
		5: {{Fn: 2, At: 6, Regs: regs(), Slots: []int64{0}}, middle, outer},
		7: {{Fn: 2, At: 9, Regs: regs(9, 8), Slots: []int64{8}}, middle, outer},
		8: {{Fn: 1, At: 10, Regs: regs(3, 6, 4, 8)}, outer},
		9: {{Fn: 0, At: 7, Regs: regs(1, 5, 2, 8), Slots: []int64{0, 5}}},
	} {
		if got := told(ahead(t, img, nil, steps)).calls; !reflect.DeepEqual(got, want) {
			t.Errorf("behind %d steps: %+v, want %+v", steps, got, want)
		}
	}
	wantOuts(t, img, nil, 8)
}
