package vm_test

import (
	"math"
	"slices"
	"testing"

	"teasel/api"
)

// ends64 are numbers at the ends of 64 bits, and some between.
func ends64() []int64 {
	return []int64{math.MinInt64, math.MinInt64 + 1, -1 << 32, -65, -64, -63, -2, -1, 0, 1, 2, 3, 63, 64, 65, 1 << 31, math.MaxInt64 - 1, math.MaxInt64}
}

func TestTheChaptersExample(t *testing.T) {
	img := alone(0, number(0, 7), op(api.MPrint, 0), op(api.MMark), op(api.MRet, 0))
	wantOuts(t, img, nil, 7)
	m := begin(t, img, nil)
	if n := m.Run(2); n != 2 || !slices.Equal(m.Status().Outs, []int64{7}) {
		t.Error(n, m.Status())
	}
	if !m.ToMark(9) {
		t.Error("no mark")
	}
	if n := m.Run(9); n != 1 || m.Status().End != api.Halt || m.Status().Exit != 7 {
		t.Error(n, m.Status())
	}
}

// TestOperationsOfTwo: each, of all pairs of numbers at the ends, in three registers, and in one or two.
func TestOperationsOfTwo(t *testing.T) {
	for o := byte(api.Add); o <= api.Ne; o++ {
		for _, x := range ends64() {
			for _, y := range ends64() {
				l := []api.Word{number(14, x), number(15, y), op(o, 3, 14, 15), op(api.MPrint, 3), op(o, 14, 14, 15), op(api.MPrint, 14), op(api.MRet, 15)}
				if y == 0 && (o == api.Div || o == api.Rem) {
					wantEnd(t, alone(0, l...), nil, api.TrapZero, 2)
					continue
				}
				n := reckoned(o, x, y)
				wantOuts(t, alone(0, l...), nil, n, n)
			}
		}
	}
}

func TestOperationsOfOne(t *testing.T) {
	for _, o := range []byte{api.Neg, api.Not, api.Bang} {
		for _, x := range ends64() {
			n := reckoned(o, x, 0)
			wantOuts(t, alone(0, number(15, x), op(o, 0, 15), op(api.MPrint, 0), op(o, 15, 15), op(api.MPrint, 15), op(api.MRet, 0)), nil, n, n)
		}
	}
}

// TestOperationsThatAreToldInWords: what the chapters say of them, by hand.
func TestOperationsThatAreToldInWords(t *testing.T) {
	const least, greatest = math.MinInt64, math.MaxInt64
	for _, x := range []struct {
		op         byte
		b, c, want int64
	}{
		{api.Div, least, -1, least}, {api.Rem, least, -1, 0}, {api.Div, -7, 2, -3}, {api.Rem, -7, 2, -1}, {api.Div, 7, -2, -3}, {api.Rem, 7, -2, 1},
		{api.Add, greatest, 1, least}, {api.Sub, least, 1, greatest}, {api.Mul, 1 << 62, 4, 0}, {api.Mul, least, -1, least},
		{api.Shl, 1, 64, 1}, {api.Shl, 1, -1, least}, {api.Shr, least, 63, -1}, {api.Shr, -8, 65, -4},
		{api.Lt, least, greatest, 1}, {api.Gt, least, greatest, 0}, {api.Eq, 0, 0, 1}, {api.Ne, 0, 0, 0}, {api.Le, 3, 3, 1}, {api.Ge, 3, 3, 1},
		{api.And, -2, 7, 6}, {api.Or, 1, -2, -1}, {api.Xor, -1, 7, -8},
		{api.Neg, least, 0, least}, {api.Not, 0, 0, -1}, {api.Bang, 0, 0, 1}, {api.Bang, -5, 0, 0},
	} {
		w := op(x.op, 4, 1, 2)
		if x.op >= api.Neg {
			w = op(x.op, 4, 1)
		}
		wantOuts(t, alone(0, number(1, x.b), number(2, x.c), w, op(api.MPrint, 4), op(api.MRet, 4)), nil, x.want)
	}
}

// TestATrapLeavesTheRegister: into which the instruction would have put a number.
func TestATrapLeavesTheRegister(t *testing.T) {
	for _, w := range []api.Word{op(api.Div, 3, 3, 0), op(api.Rem, 3, 3, 0), op(api.MRead, 3), op(api.MLoad, 3, 1, 4), op(api.MLoad, 3, 0, 0), op(api.MLen, 3, 0), op(api.MLen, 3, 4)} {
		l := hold(t, alone(0, number(3, 77), with(api.MAlloc, 1, 1), number(4, -9), w, op(api.MRet, 3)), nil, 9)
		if last := l[len(l)-1]; last.status.End == 0 || last.status.At != 3 || last.calls[0].Regs[3] != 77 {
			t.Error(w, last)
		}
	}
}

func TestNumbersAndMoves(t *testing.T) {
	for _, n := range ends64() {
		wantOuts(t, alone(0, number(0, n), op(api.MMove, 15, 0), number(0, 5), op(api.MPrint, 15), op(api.MPrint, 0), op(api.MMove, 7, 7), op(api.MPrint, 7), op(api.MRet, 0)), nil, n, 5, 0)
	}
}

// TestJumps: forward, back, to itself, and those that hang on a number.
func TestJumps(t *testing.T) {
	wantOuts(t, alone(0, with(api.MJump, 2), op(api.MPrint, 0), number(0, 4), op(api.MPrint, 0), op(api.MRet, 0)), nil, 4)
	for _, n := range ends64() {
		want := []int64{n, n}
		if n == 0 {
			want = want[1:]
		}
		wantOuts(t, alone(0, number(1, n), with(api.MZero, 3, 1), op(api.MPrint, 1), op(api.MPrint, 1), op(api.MRet, 1)), nil, want...)
	}
	down := alone(0, number(1, 3), number(2, 1), op(api.MPrint, 1), op(api.Sub, 1, 1, 2), with(api.MZero, 6, 1), with(api.MJump, 2), op(api.MRet, 1))
	wantOuts(t, down, nil, 3, 2, 1)
	l := hold(t, alone(0, with(api.MJump, 0)), nil, 50)
	if last := l[len(l)-1].status; len(l) != 51 || last.End != 0 || last.Steps != 50 {
		t.Error(last)
	}
}

// TestReads: in order, whatever numbers, and one more than there are.
func TestReads(t *testing.T) {
	two := []api.Word{op(api.MRead, 1), op(api.MRead, 2), op(api.MPrint, 2), op(api.MPrint, 1), op(api.MRet, 0)}
	wantOuts(t, alone(0, two...), []int64{math.MinInt64, math.MaxInt64}, math.MaxInt64, math.MinInt64)
	wantOuts(t, alone(0, two...), []int64{1, 2, 3}, 2, 1)
	wantEnd(t, alone(0, two...), []int64{5}, api.TrapIn, 1)
	wantEnd(t, alone(0, two...), nil, api.TrapIn, 0)
	l := hold(t, alone(0, two...), []int64{5}, 9)
	if last := l[len(l)-1].status; last.Read != 1 || last.Steps != 2 {
		t.Error(last)
	}
}

// TestSlots: they are 0 at first, and each is one of its own.
func TestSlots(t *testing.T) {
	l := []api.Word{with(api.MIn, 1, 3), op(api.MPrint, 3), number(1, 8), number(2, -9), with(api.MOut, 1, 1), with(api.MOut, 0, 2), with(api.MIn, 1, 3), op(api.MPrint, 3), with(api.MIn, 0, 3), op(api.MPrint, 3), with(api.MOut, 1, 0), with(api.MIn, 1, 3), op(api.MPrint, 3), op(api.MRet, 0)}
	wantOuts(t, alone(2, l...), nil, 0, 8, -9, 0)
	wantOuts(t, alone(9, l...), nil, 0, 8, -9, 0)
	wantEnd(t, alone(1, l...), nil, api.Wrong, 0)
	wantEnd(t, alone(0, with(api.MIn, 0, 3)), nil, api.Wrong, 0)
	wantEnd(t, alone(0, with(api.MOut, 0, 3)), nil, api.Wrong, 0)
	wantEnd(t, alone(1, with(api.MOut, 0, 3), with(api.MOut, 1, 3)), nil, api.Wrong, 1)
}

// TestTheMostSlots: the last one, the one ahead, and one beyond.
func TestTheMostSlots(t *testing.T) {
	for _, slots := range []int{api.MaxSlots - 1, api.MaxSlots} {
		last := int64(slots - 1)
		wantOuts(t, alone(slots, number(1, 5), with(api.MOut, last, 1), with(api.MIn, last, 2), op(api.MPrint, 2), with(api.MIn, last-1, 2), op(api.MPrint, 2), op(api.MRet, 0)), nil, 5, 0)
		wantEnd(t, alone(slots, with(api.MIn, last, 2), with(api.MIn, last+1, 2)), nil, api.Wrong, 1)
		wantEnd(t, alone(slots, with(api.MOut, last, 2), with(api.MOut, last+1, 2)), nil, api.Wrong, 1)
	}
}

// TestSlotsAreTheFunctions: of another one with more, or of a call of the same one, there are none to be had.
func TestSlotsAreTheFunctions(t *testing.T) {
	img := several(
		[]api.Word{number(1, 6), with(api.MOut, 0, 1), with(api.MCall, 1, 2), op(api.MPrint, 2), with(api.MIn, 0, 1), op(api.MPrint, 1), with(api.MIn, 1, 1)},
		[]api.Word{with(api.MIn, 0, 3), with(api.MIn, 1, 4), number(1, 7), with(api.MOut, 0, 1), with(api.MOut, 1, 1), op(api.MRet, 3)},
	)
	img.Entries[0].Slots, img.Entries[1].Slots = 1, 2
	wantEnd(t, img, nil, api.Wrong, 6, 0, 6)
	img.Entries[0].Slots, img.Entries[1].Slots = 2, 1
	wantEnd(t, img, nil, api.Wrong, 8)
}
