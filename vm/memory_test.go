package vm_test

import (
	"bytes"
	"reflect"
	"slices"
	"testing"

	"teasel/api"
	"teasel/vm"
)

// scribble writes over a list, spare room too.
func scribble(l []int64) {
	l = l[:cap(l)]
	for i := range l {
		l[i] = -77
	}
}

// scribbleAll writes over all that was told of a machine.
func scribbleAll(m *vm.Machine) {
	scribble(m.Status().Outs)
	scribble(m.Heap())
	for _, c := range m.Calls() {
		scribble(c.Regs)
		scribble(c.Slots)
	}
	l := m.Calls()
	clear(l[:cap(l)])
	p := m.Save()
	clear(p[:cap(p)])
}

// TestWhatIsHandedInIsNotKept: the caller writes over it, and the machine goes on as if not.
func TestWhatIsHandedInIsNotKept(t *testing.T) {
	want := saves(t, busy(), busyInput())
	for i := range want {
		img, input, p := busy(), busyInput(), bytes.Clone(want[i])
		m := ahead(t, img, input, i)
		n := load(t, img, input, p)
		clear(img.Words)
		clear(img.Entries)
		clear(p)
		scribble(input)
		for k := i; k < len(want); k++ {
			if !bytes.Equal(m.Save(), want[k]) || !bytes.Equal(n.Save(), want[k]) {
				t.Fatal("another moment", i, k)
			}
			m.Run(1)
			n.Run(1)
		}
	}
}

// TestWhatIsHandedInIsNotChanged: its spare room neither.
func TestWhatIsHandedInIsNotChanged(t *testing.T) {
	for i, p := range saves(t, busy(), busyInput()) {
		img := busy()
		img.Debug = []byte("told of")
		words, entries, debug, input, bytes := spare(img.Words), spare(img.Entries), spare(img.Debug), spare(busyInput()), spare(p)
		img.Words, img.Entries, img.Debug = words.now, entries.now, debug.now
		ahead(t, img, input.now, i).Run(99)
		load(t, img, input.now, bytes.now).Run(99)
		vm.Load(img, input.now, bytes.now[:len(bytes.now)-1])
		if !words.same() || !entries.same() || !debug.same() || !input.same() || !bytes.same() {
			t.Fatal("it's changed", i)
		}
	}
}

// kept is a list that is handed in, with spare room, and what stood there before.
type kept[T comparable] struct {
	now    []T
	before []T
}

func spare[T comparable](l []T) kept[T] {
	room := append(slices.Clone(l), l...)
	return kept[T]{now: room[:len(l)], before: slices.Clone(room)}
}

func (k kept[T]) same() bool {
	return slices.Equal(k.now[:len(k.before)], k.before)
}

// TestAnswersAreNewMemory: whoever writes over them changes no machine, and no other answer.
func TestAnswersAreNewMemory(t *testing.T) {
	img, input := busy(), busyInput()
	m := begin(t, img, input)
	for i, want := range moments(img, input, 99) {
		s, calls, heap, p := m.Status(), m.Calls(), m.Heap(), m.Save()
		scribbleAll(m)
		wantTold(t, m, want)
		if !slices.Equal(s.Outs, want.status.Outs) || len(calls) != len(want.calls) || !slices.Equal(heap, want.heap) || !bytes.Equal(p, m.Save()) {
			t.Fatal("an answer has changed", i)
		}
		for k, c := range calls {
			if !slices.Equal(c.Regs, want.calls[k].Regs) || !slices.Equal(c.Slots, want.calls[k].Slots) {
				t.Fatal("a call has changed", i)
			}
			scribble(c.Regs)
			if !slices.Equal(c.Slots, want.calls[k].Slots) {
				t.Fatal("two lists of a call share memory", i)
			}
		}
		m.Run(1)
	}
}

// TestMachinesShareNothing: of one image and input, one loaded from the other.
func TestMachinesShareNothing(t *testing.T) {
	img, input := busy(), busyInput()
	want := saves(t, img, input)
	for i, p := range want {
		m, n := ahead(t, img, input, i), load(t, img, input, p)
		other := load(t, img, input, m.Save())
		m.Run(len(want))
		if !bytes.Equal(n.Save(), p) || !bytes.Equal(other.Save(), p) {
			t.Fatal("one machine moves another one", i)
		}
	}
}

// TestTheSameAnswerEachTime: whatever was asked ahead, and of others.
func TestTheSameAnswerEachTime(t *testing.T) {
	img, input := busy(), busyInput()
	m := ahead(t, img, input, 20)
	want, p := told(m), m.Save()
	ahead(t, alone(0, op(api.MRet, 1)), nil, 1)
	vm.Load(img, input, p[1:])
	if got := told(m); !reflect.DeepEqual(got, want) || !bytes.Equal(m.Save(), p) {
		t.Error("another answer")
	}
}
