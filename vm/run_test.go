package vm_test

import (
	"bytes"
	"math"
	"slices"
	"testing"

	"teasel/api"
)

// marking is a Main that does two marks, and one each time round, so often as its input says.
func marking() api.Image {
	return alone(0, op(api.MMark), op(api.MMark), op(api.MRead, 1), number(2, 1), with(api.MZero, 8, 1), op(api.MMark), op(api.Sub, 1, 1, 2), with(api.MJump, 4), shows(1), op(api.MRet, 2))
}

// TestRun: none, fewer than none, one at a time, all at once, more than there are.
func TestRun(t *testing.T) {
	img, input := marking(), []int64{3}
	all := len(hold(t, img, input, 99)) - 1
	m := begin(t, img, input)
	start := m.Save()
	for _, n := range []int{0, -1, -1000, math.MinInt} {
		if m.Run(n) != 0 || m.ToMark(n) || !bytes.Equal(m.Save(), start) {
			t.Error("it runs", n)
		}
	}
	one := begin(t, img, input)
	for i := range all {
		if one.Run(1) != 1 || one.Status().Steps != i+1 {
			t.Error("a step isn't one", i)
		}
	}
	for _, n := range []int{all, all + 1, 10 * all, math.MaxInt} {
		m := begin(t, img, input)
		if got := m.Run(n); got != all || m.Status().Steps != all || !bytes.Equal(m.Save(), one.Save()) {
			t.Error("all at once:", got, m.Status())
		}
		if m.Run(n) != 0 || m.Run(1) != 0 || m.Run(0) != 0 || m.Status().Steps != all {
			t.Error("it goes on behind the end")
		}
	}
}

// TestToMark: each mark, no step more; the last step that is allowed, and one fewer.
func TestToMark(t *testing.T) {
	img, input := marking(), []int64{3}
	l := hold(t, img, input, 99)
	var at []int
	for i := 1; i < len(l); i++ {
		if l[i].status.Marks > l[i-1].status.Marks {
			at = append(at, i)
		}
	}
	if !slices.Equal(at, []int{1, 2, 6, 10, 14}) {
		t.Fatal(at)
	}
	for _, more := range []int{0, 1, 5, math.MaxInt - 99} {
		m := begin(t, img, input)
		steps := 0
		for i, n := range at {
			if !m.ToMark(n-steps+more) || m.Status().Steps != n || m.Status().Marks != i+1 {
				t.Error("not at the mark", i+1, m.Status())
			}
			steps = n
		}
		if m.ToMark(99) || m.Status().End != api.Halt {
			t.Error("a mark behind the last one", m.Status())
		}
		if m.ToMark(99) || m.ToMark(0) {
			t.Error("a mark behind the end")
		}
	}
	for i, n := range at {
		m := begin(t, img, input)
		for range i {
			m.ToMark(99)
		}
		fewer := n - 1 - m.Status().Steps
		if m.ToMark(fewer) || m.Status().Steps != n-1 || m.Status().Marks != i {
			t.Error("fewer steps than to the mark", m.Status())
		}
		if m.ToMark(0) || !m.ToMark(1) || m.Status().Steps != n {
			t.Error("the mark is the only step", m.Status())
		}
	}
}

// TestToMarkAtOtherEnds: no mark, where there is none ahead of what ends it.
func TestToMarkAtOtherEnds(t *testing.T) {
	for _, w := range []api.Word{op(api.Div, 1, 1, 1), op(api.MRead, 1), op(api.MLen, 1, 1), {}, with(api.MMark, -1), with(api.MGive, 0, 1), with(api.MCall, 7, 1)} {
		m := begin(t, alone(0, number(3, 1), w, op(api.MMark)), nil)
		if m.ToMark(1) || m.ToMark(9) || m.Status().Steps != 2 || m.Status().End == 0 || m.Status().Marks != 0 {
			t.Error(w, m.Status())
		}
	}
	m := begin(t, alone(0, with(api.MJump, 0)), nil)
	if m.ToMark(100000) || m.Status().Steps != 100000 {
		t.Error(m.Status())
	}
}

// TestWaysToOneMoment: by steps of any kind; the bytes are the same.
func TestWaysToOneMoment(t *testing.T) {
	img, input := marking(), []int64{40}
	for _, to := range []int{0, 1, 2, 3, 50, 99, 150, 166, 167} {
		want := ahead(t, img, input, to).Save()
		for step := 1; step < 9; step++ {
			m := begin(t, img, input)
			for left := to; left > 0; left = to - m.Status().Steps {
				if step%2 == 0 {
					m = load(t, img, input, m.Save())
				}
				if step%3 == 0 {
					m.ToMark(min(step, left))
				} else {
					m.Run(min(step, left))
				}
				m.Status()
				m.Calls()
				m.Heap()
			}
			if !bytes.Equal(m.Save(), want) {
				t.Error("another way has other bytes", to, step)
			}
		}
	}
}

// TestManySteps: as many as a player may take, in no long time, with calls and many slots.
func TestManySteps(t *testing.T) {
	f := []api.Word{with(api.MIn, 3, 1), with(api.MOut, 3, 2), op(api.MRet, 1)}
	img := several([]api.Word{with(api.MCall, 1, 1), with(api.MJump, 0)}, f)
	img.Entries[1].Slots = api.MaxSlots
	m := begin(t, img, nil)
	if n := m.Run(api.MaxFuel); n != api.MaxFuel || m.Status().Steps != api.MaxFuel {
		t.Error(n)
	}
}
