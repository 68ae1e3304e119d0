package vm_test

import (
	"bytes"
	"reflect"
	"slices"
	"testing"

	"teasel/api"
	"teasel/vm"
)

// op is an instruction without an Imm, with one an instruction that has one.
func op(o byte, registers ...byte) api.Word {
	w := api.Word{Op: o}
	for i, r := range registers {
		*[]*byte{&w.A, &w.B, &w.C}[i] = r
	}
	return w
}

func with(o byte, imm int64, registers ...byte) api.Word {
	w := op(o, registers...)
	w.Imm = imm
	return w
}

// number puts a number into a register.
func number(r byte, n int64) api.Word {
	return with(api.MNum, n, r)
}

// alone is an image of Main alone, which has so many slots.
func alone(slots int, l ...api.Word) api.Image {
	return api.Image{Words: l, Entries: []api.Entry{{At: 0, Slots: slots}}}
}

// several is an image of functions that stand one behind the other, Main ahead of all; none has slots.
func several(funs ...[]api.Word) api.Image {
	var img api.Image
	for _, l := range funs {
		img.Entries = append(img.Entries, api.Entry{At: len(img.Words)})
		img.Words = append(img.Words, l...)
	}
	return img
}

// begin answers a machine at its beginning.
func begin(t testing.TB, img api.Image, input []int64) *vm.Machine {
	t.Helper()
	m, e := vm.New(img, input)
	if m == nil || e != api.OK {
		t.Fatal("no machine", e)
	}
	return m
}

func ahead(t testing.TB, img api.Image, input []int64, steps int) *vm.Machine {
	t.Helper()
	m := begin(t, img, input)
	if n := m.Run(steps); n != steps {
		t.Fatal("so many steps were taken:", n, "not", steps)
	}
	return m
}

func load(t testing.TB, img api.Image, input []int64, p []byte) *vm.Machine {
	t.Helper()
	m, e := vm.Load(img, input, p)
	if m == nil || e != api.OK {
		t.Fatal("what was saved isn't loaded", e)
	}
	return m
}

// told answers all that a machine tells. An empty list is as none.
func told(m *vm.Machine) moment {
	x := moment{m.Status(), m.Calls(), m.Heap()}
	if len(x.status.Outs) == 0 {
		x.status.Outs = nil
	}
	if len(x.heap) == 0 {
		x.heap = nil
	}
	for i := range x.calls {
		if len(x.calls[i].Slots) == 0 {
			x.calls[i].Slots = nil
		}
	}
	return x
}

// wantTold holds what a machine tells.
func wantTold(t testing.TB, m *vm.Machine, want moment) {
	t.Helper()
	if got := told(m); !reflect.DeepEqual(got, want) {
		t.Fatalf("it tells %+v, must tell %+v", got, want)
	}
}

// hold holds a run by its measure, up to so many steps: step by step, and each moment saved, and loaded again; and answers all moments.
func hold(t testing.TB, img api.Image, input []int64, most int) []moment {
	t.Helper()
	want := moments(img, input, most)
	m := begin(t, img, input)
	var saved [][]byte
	moment := map[string]int{}
	for i, x := range want {
		wantTold(t, m, x)
		p := m.Save()
		if k, had := moment[string(p)]; had {
			t.Fatal("the moments", k, "and", i, "have the same bytes")
		}
		moment[string(p)] = i
		saved = append(saved, p)
		again := load(t, img, input, p)
		wantTold(t, again, x)
		if !bytes.Equal(again.Save(), p) || !bytes.Equal(m.Save(), p) {
			t.Fatal("what was loaded isn't saved as it was", i)
		}
		goes := 0
		if i+1 < len(want) {
			goes = 1
		}
		if i < most && (m.Run(1) != goes || again.Run(1) != goes || again.ToMark(0)) {
			t.Fatal("a step more, or less, than there are", i)
		}
		m = again
	}
	holdWays(t, img, input, want, saved)
	return want
}

// holdWays holds other ways to moments than step by step: at once, from what was saved, and to marks.
func holdWays(t testing.TB, img api.Image, input []int64, want []moment, saved [][]byte) {
	t.Helper()
	last := len(want) - 1
	for _, from := range []int{0, last / 3, last / 2, last} {
		for _, to := range []int{from, (from + last) / 2, last} {
			m := load(t, img, input, saved[from])
			if m.Run(to-from) != to-from || !bytes.Equal(m.Save(), saved[to]) {
				t.Fatal("another moment behind as many steps", from, to)
			}
			wantTold(t, m, want[to])
		}
		m := load(t, img, input, saved[from])
		for at := from; at < last; {
			to := at + 1
			for to < last && want[to].status.Marks == want[at].status.Marks {
				to++
			}
			if m.ToMark(to-at) != (want[to].status.Marks > want[at].status.Marks) {
				t.Fatal("a mark more, or less, than there is", at)
			}
			wantTold(t, m, want[to])
			at = to
		}
	}
}

// wantEnd holds a run by its measure, and by how it must end, at which address, with what is printed.
func wantEnd(t testing.TB, img api.Image, input []int64, end byte, at int, outs ...int64) {
	t.Helper()
	l := hold(t, img, input, 1000)
	if got := l[len(l)-1].status; got.End != end || got.At != at || !slices.Equal(got.Outs, outs) {
		t.Fatalf("%v ends so: %+v, must end with %d at %d, with %v", img.Words, got, end, at, outs)
	}
}

// wantOuts holds a run that halts by what is printed.
func wantOuts(t testing.TB, img api.Image, input []int64, outs ...int64) {
	t.Helper()
	l := hold(t, img, input, 5000)
	if got := l[len(l)-1].status; got.End != api.Halt || !slices.Equal(got.Outs, outs) {
		t.Fatalf("%v ends so: %+v, must halt, with %v", img.Words, got, outs)
	}
}
