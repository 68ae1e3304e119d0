package vm_test

import (
	"math"
	"reflect"
	"slices"
	"testing"

	"teasel/api"
	"teasel/vm"
)

// TestEachEnd: what Status, Calls and Heap tell then, and that nothing goes on.
func TestEachEnd(t *testing.T) {
	start := []api.Word{with(api.MAlloc, 1, 1), shows(1), op(api.MRead, 2), op(api.MMark)}
	regs := append([]int64{0, 1, 33}, make([]int64, 13)...)
	for _, x := range []struct {
		end  byte
		last []api.Word
	}{
		{api.Halt, []api.Word{op(api.MRet, 2)}},
		{api.TrapZero, []api.Word{op(api.Div, 5, 2, 0)}},
		{api.TrapCell, []api.Word{op(api.MLoad, 5, 1, 2)}},
		{api.TrapIn, []api.Word{op(api.MRead, 5)}},
		{api.StopHeap, slices.Repeat([]api.Word{with(api.MAlloc, 256, 0)}, 16)},
		{api.Wrong, []api.Word{op(api.MLen, 5, 0)}},
		{api.Wrong, nil},
	} {
		img := alone(0, append(slices.Clone(start), x.last...)...)
		l := hold(t, img, []int64{33}, 99)
		got := l[len(l)-1]
		steps := max(5, 4+len(x.last))
		want := vm.Status{End: x.end, Outs: []int64{1}, Read: 1, Steps: steps, Marks: 1, At: steps - 1}
		calls := []vm.Call{{At: steps - 1, Regs: slices.Clone(regs)}}
		heap := []int64{1, 0}
		switch x.end {
		case api.Halt:
			want.Exit = 33
			calls = nil
		case api.StopHeap:
			calls[0].Regs[0] = 2 + 14*257 + 1
			heap = append(heap, slices.Repeat(append([]int64{256}, make([]int64, 256)...), 15)...)
		}
		if !reflect.DeepEqual(got.status, want) || !reflect.DeepEqual(got.calls, calls) || !reflect.DeepEqual(got.heap, heap) {
			t.Errorf("%d: %+v, want %+v; %+v, want %+v; %v, want %v", x.end, got.status, want, got.calls, calls, got.heap, heap)
		}
		m := ahead(t, img, []int64{33}, steps)
		before := m.Save()
		if m.Run(1) != 0 || m.Run(math.MaxInt) != 0 || m.ToMark(1) || m.ToMark(math.MaxInt) || !slices.Equal(m.Save(), before) {
			t.Error("it goes on behind its end", x.end)
		}
		wantTold(t, m, got)
	}
}

// TestTheEndOfTooManyCalls: all of them are told.
func TestTheEndOfTooManyCalls(t *testing.T) {
	img := alone(1, op(api.MTop, 0), with(api.MCall, 0, 1))
	m := begin(t, img, nil)
	if n := m.Run(math.MaxInt); n != 200 {
		t.Error(n)
	}
	if s := told(m).status; !reflect.DeepEqual(s, vm.Status{End: api.StopCall, Steps: 200, At: 1}) {
		t.Error(s)
	}
	l := m.Calls()
	for _, c := range l {
		if !reflect.DeepEqual(c, vm.Call{At: 1, Regs: make([]int64, 16), Slots: []int64{0}}) {
			t.Error(c)
		}
	}
	if len(l) != 100 {
		t.Error(len(l))
	}
}

// TestAheadOfTheFirstStep: a call of Main, and nothing else.
func TestAheadOfTheFirstStep(t *testing.T) {
	img := api.Image{Words: []api.Word{op(api.MRet), op(api.MRet), op(api.MRet)}, Entries: []api.Entry{{At: 1, Slots: 1}, {At: 2, Slots: 2}}, Main: 1}
	wantTold(t, begin(t, img, []int64{4}), moment{calls: []vm.Call{{Fn: 1, Regs: make([]int64, 16), Slots: []int64{0, 0}}}})
	if s := ahead(t, img, nil, 1).Status(); s.At != 2 {
		t.Error(s)
	}
}

// TestAddressesThatThereAreNot: where a function begins, to which a jump goes, behind the last instruction.
func TestAddressesThatThereAreNot(t *testing.T) {
	for _, at := range []int{-1, 2, 3, math.MinInt, math.MaxInt} {
		img := api.Image{Words: []api.Word{with(api.MCall, 1, 1), op(api.MRet, 1)}, Entries: []api.Entry{{}, {At: at}}}
		wantEnd(t, img, nil, api.Wrong, at)
		if l := told(ahead(t, img, nil, 2)).calls; len(l) != 2 || l[0].Fn != 1 || l[0].At != at || l[1].At != 0 {
			t.Error(l)
		}
		img.Main = 1
		wantEnd(t, img, nil, api.Wrong, at)
		if s := ahead(t, img, nil, 1).Status(); s.Steps != 1 || s.At != at {
			t.Error(s)
		}
	}
	for _, to := range []int64{2, 3, 1 << 40, math.MaxInt64} {
		wantEnd(t, alone(0, number(1, 1), with(api.MJump, to)), nil, api.Wrong, int(to))
		wantEnd(t, alone(0, number(1, 1), with(api.MZero, to, 2)), nil, api.Wrong, int(to))
		wantEnd(t, alone(0, with(api.MZero, to, 1), op(api.MRet, 1)), nil, api.Wrong, int(to))
	}
	for _, w := range []api.Word{number(1, 2), op(api.MMark), op(api.MArg, 1), op(api.MTop, 1), with(api.MOut, 0, 1), with(api.MZero, 2, 1)} {
		wantEnd(t, alone(1, w, w), nil, api.Wrong, 2)
	}
	wantEnd(t, alone(0, shows(3)), nil, api.Wrong, 1, 0)
	wantEnd(t, alone(0), nil, api.Wrong, 0)
}

// TestWordsThatAreNotRight: of each Op, and of none; the step does nothing but end.
func TestWordsThatAreNotRight(t *testing.T) {
	var l []api.Word
	for o := range 256 {
		l = append(l, with(byte(o), -1, 16), with(byte(o), 1, 0, 16), api.Word{Op: byte(o), C: 16, Imm: 1}, with(byte(o), math.MinInt64, 255, 255, 255))
	}
	l = append(l, op(0), op(api.LAnd, 1, 2, 3), op(api.LOr, 1, 2, 3), op(22), op(29), op(49), op(255),
		with(api.MMark, -1), op(api.MMark, 1), with(api.MCall, -1), with(api.MJump, -1), with(api.MZero, -1), op(api.MJump, 1), with(api.MRet, 1), op(api.MRet, 0, 1),
		with(api.MIn, -1), with(api.MIn, api.MaxSlots), with(api.MOut, -1), with(api.MOut, api.MaxSlots), with(api.MAlloc, 0), with(api.MAlloc, api.MaxCells+1), with(api.MGive, -1), with(api.MGive, api.MaxParams), op(api.Neg, 1, 2, 3), with(api.Add, 1, 1, 2, 3))
	for _, w := range l {
		img := alone(api.MaxSlots, number(3, 7), w, op(api.MRet, 3))
		m := ahead(t, img, nil, 2)
		if s := told(m).status; !reflect.DeepEqual(s, vm.Status{End: api.Wrong, Steps: 2, At: 1}) || m.Calls()[0].Regs[3] != 7 {
			t.Errorf("%v: %+v", w, s)
		}
		if begin(t, img, nil).ToMark(9) {
			t.Error("it's a mark", w)
		}
		img.Entries[0].Slots = 0
		hold(t, img, nil, 9)
	}
}

// TestMainsSlots: where they are none such the first step is wrong, whatever stands there, and Calls tells none.
func TestMainsSlots(t *testing.T) {
	for _, slots := range []int{-1, api.MaxSlots + 1, math.MinInt, math.MaxInt} {
		for _, w := range []api.Word{op(api.MMark), op(api.MRet), op(api.MRead), with(api.MCall, 1), with(api.MAlloc, 256), {}, with(api.MIn, 0)} {
			for _, at := range []int{0, 1, 2, -1, math.MaxInt} {
				img := api.Image{Words: []api.Word{w, w}, Entries: []api.Entry{{}, {At: at, Slots: slots}}, Main: 1}
				call := vm.Call{Fn: 1, Regs: make([]int64, 16)}
				wantTold(t, begin(t, img, nil), moment{calls: []vm.Call{call}})
				call.At = at
				wantTold(t, ahead(t, img, nil, 1), moment{status: vm.Status{End: api.Wrong, Steps: 1, At: at}, calls: []vm.Call{call}})
				wantEnd(t, img, nil, api.Wrong, at)
				if begin(t, img, nil).ToMark(5) {
					t.Error("it's a mark")
				}
			}
		}
	}
	for _, slots := range []int{0, 1, api.MaxSlots} {
		m := ahead(t, alone(slots, op(api.MMark), op(api.MRet)), nil, 1)
		if l := m.Calls(); len(l) != 1 || len(l[0].Slots) != slots || m.Status().End != 0 {
			t.Error(slots, m.Status())
		}
	}
}

// TestNew: Main must be a place of Entries; nothing else is looked at.
func TestNew(t *testing.T) {
	for main, want := range map[int]api.Errno{0: api.OK, 1: api.OK, 2: api.ErrForm, 3: api.ErrForm, -1: api.ErrForm, math.MaxInt: api.ErrForm, math.MinInt: api.ErrForm} {
		for _, words := range [][]api.Word{nil, {{}}, {op(api.MRet)}, make([]api.Word, api.MaxWords+1)} {
			img := api.Image{Words: words, Entries: []api.Entry{{At: -1, Slots: -1}, {At: 99, Slots: math.MaxInt}}, Main: main, Debug: []byte{1}}
			m, e := vm.New(img, nil)
			if e != want || (m == nil) != (want != api.OK) {
				t.Error(main, e)
			}
			if n, f := vm.Load(img, nil, nil); n != nil || f != api.ErrForm {
				t.Error(main, f)
			}
		}
	}
	if m, e := vm.New(api.Image{}, nil); m != nil || e != api.ErrForm {
		t.Error(e)
	}
}

// TestNoMachine: all of its methods answer nothing.
func TestNoMachine(t *testing.T) {
	var m *vm.Machine
	for _, n := range []int{-1, 0, 1, math.MaxInt} {
		if m.Run(n) != 0 || m.ToMark(n) {
			t.Error("it runs")
		}
	}
	if x := told(m); !reflect.DeepEqual(x, moment{}) || len(m.Save()) > 0 {
		t.Error(x)
	}
}
