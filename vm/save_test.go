package vm_test

import (
	"bytes"
	"math"
	"slices"
	"testing"

	"teasel/api"
	"teasel/packed"
	"teasel/vm"
)

// busy is an image that uses all that a machine has: calls within calls with arguments and slots, arrays, what is read and printed; Main calls itself while it reads other numbers than 0.
func busy() api.Image {
	main := []api.Word{
		op(api.MTop, 9), with(api.MAlloc, 2, 1), op(api.MRead, 2), op(api.MMark), with(api.MOut, 1, 2), with(api.MZero, 9, 2),
		with(api.MCall, 0, 3), shows(3), with(api.MJump, 13),
		op(api.MArg, 1), op(api.MArg, 2), op(api.MArg, 1), with(api.MCall, 1, 4),
		op(api.MFree, 9), with(api.MIn, 1, 5), op(api.MRet, 5),
	}
	f := []api.Word{
		with(api.MGive, 0, 1), with(api.MGive, 1, 2), number(3, -300), op(api.MStore, 1, 2, 3), with(api.MMark, 1), with(api.MOut, 2, 3), op(api.MArg, 3),
		op(api.MLoad, 4, 1, 2), op(api.MTop, 5), shows(5), number(6, 0), with(api.MOut, 2, 6), op(api.MRet, 4),
	}
	img := several(main, f)
	img.Entries[0].Slots, img.Entries[1].Slots = 2, 3
	return img
}

func busyInput() []int64 {
	return []int64{7, -1, math.MinInt64, 0, 12}
}

// saves answers what is saved at each moment of a run.
func saves(t testing.TB, img api.Image, input []int64) [][]byte {
	t.Helper()
	m := begin(t, img, input)
	l := [][]byte{m.Save()}
	for m.Run(1) == 1 && len(l) < 1000 {
		l = append(l, m.Save())
	}
	return l
}

// wantNoneOrIts holds that bytes are no machine's, or that they are those of one that goes on as a machine may; and answers whether there is one.
func wantNoneOrIts(t testing.TB, img api.Image, input []int64, p []byte) bool {
	t.Helper()
	m, e := vm.Load(img, input, p)
	if e != api.OK {
		if m != nil || e != api.ErrForm {
			t.Fatal("beside an error there is a machine, or the error is another one", e)
		}
		return false
	}
	if !bytes.Equal(m.Save(), p) {
		t.Fatalf("what is loaded from % x is saved as % x", p, m.Save())
	}
	wantSane(t, img, input, m)
	for range 5 {
		m.Run(1)
		wantSane(t, img, input, m)
	}
	m.Run(200)
	wantSane(t, img, input, m)
	load(t, img, input, m.Save())
	return true
}

// wantSane holds what is told of any machine by what is so of all of them.
func wantSane(t testing.TB, img api.Image, input []int64, m *vm.Machine) {
	t.Helper()
	s, calls := m.Status(), m.Calls()
	if s.Read < 0 || s.Read > len(input) || s.Marks < 0 || s.Marks+s.Read+len(s.Outs) > s.Steps || len(m.Heap()) > 4096 || s.End != api.Halt && s.Exit != 0 || s.End > api.Wrong || s.End == api.StopFuel {
		t.Fatalf("no machine tells this: %+v", s)
	}
	if (s.End == api.Halt) != (len(calls) == 0) || len(calls) > 100 {
		t.Fatalf("no machine has %d open calls: %+v", len(calls), s)
	}
	for i, c := range calls {
		if c.Fn < 0 || c.Fn >= len(img.Entries) || len(c.Regs) != 16 {
			t.Fatalf("no machine has the call %d: %+v", i, c)
		}
		slots := img.Entries[c.Fn].Slots
		if slots < 0 || slots > 60000 {
			slots = 0
		}
		if len(c.Slots) != slots {
			t.Fatalf("the call %d has %d slots, not %d", i, len(c.Slots), slots)
		}
		if i > 0 && (c.At < 0 || c.At >= len(img.Words) || img.Words[c.At].Op != api.MCall || img.Words[c.At].Imm != int64(calls[i-1].Fn)) {
			t.Fatalf("no machine has the call %d, which waits at %d", i, c.At)
		}
		if i == len(calls)-1 && c.Fn != img.Main {
			t.Fatalf("the outermost call is one of %d", c.Fn)
		}
	}
}

func TestSaveAndLoad(t *testing.T) {
	l := hold(t, busy(), busyInput(), 999)
	last := l[len(l)-1].status
	if last.End != api.Halt || last.Marks != 5 || last.Read != 4 || last.Exit != 7 || !slices.Equal(last.Outs, []int64{12, 0, math.MinInt64, -1}) {
		t.Errorf("%+v", last)
	}
}

// TestSaveTellsNothingElse: what stood in slots, cells and registers, and does no more, isn't to be seen.
func TestSaveTellsNothingElse(t *testing.T) {
	img := alone(9, number(1, 5), with(api.MOut, 8, 1), with(api.MAlloc, 3, 2), op(api.MStore, 2, 0, 1), number(1, 0), with(api.MOut, 8, 1), op(api.MFree, 1), number(2, 0))
	p := ahead(t, img, nil, 8).Save()
	none := alone(9, slices.Repeat([]api.Word{number(1, 0)}, 8)...)
	if !bytes.Equal(p, ahead(t, none, nil, 8).Save()) {
		t.Errorf("% x", p)
	}
}

// TestLoadOfBytesThatAreNone: cut off anywhere, with others behind them, with one changed.
func TestLoadOfBytesThatAreNone(t *testing.T) {
	img, input := busy(), busyInput()
	for i, p := range saves(t, img, input) {
		for n := range p {
			if wantNoneOrIts(t, img, input, p[:n]) {
				t.Fatal("cut off at", n, "of", len(p), i)
			}
		}
		for _, more := range []string{"\x00", "\x01", "\xff", "\x00\x00", string(p)} {
			if wantNoneOrIts(t, img, input, append(bytes.Clone(p), more...)) {
				t.Fatalf("with % x behind: %d", more, i)
			}
		}
		for n := range p {
			for _, b := range []byte{0, 1, 2, 3, 4, 5, 8, 9, 16, 127, 128, 200, 0xf7, 0xf8, 0xf9, 0xff, p[n] + 1, p[n] - 1, p[n] ^ 2, p[n] ^ 64} {
				q := bytes.Clone(p)
				q[n] = b
				if wantNoneOrIts(t, img, input, q) && i == 0 && n == 0 && b == 1 {
					t.Fatal("fewer steps than none")
				}
			}
		}
	}
	for _, p := range []string{"", "\x00", "teasel", "\xff\xff\xff\xff\xff\xff\xff\xff\xff"} {
		wantNoneOrIts(t, img, input, []byte(p))
	}
}

// numbersOf answers the numbers of which what was saved is made, bytesOf what is made of numbers.
func numbersOf(t testing.TB, p []byte) []int64 {
	t.Helper()
	var l []int64
	for rest := packed.Rest(p); len(rest) > 0; {
		n, err := rest.Signed()
		if err != nil {
			t.Fatal(err)
		}
		l = append(l, n)
	}
	return l
}

func bytesOf(l []int64) []byte {
	var p []byte
	for _, n := range l {
		p = packed.AppendSigned(p, n)
	}
	return p
}

// TestLoadOfMomentsThatNoRunComesTo: each number is another one.
func TestLoadOfMomentsThatNoRunComesTo(t *testing.T) {
	img, input := busy(), busyInput()
	for _, p := range saves(t, img, input) {
		l := numbersOf(t, p)
		if !bytes.Equal(bytesOf(l), p) {
			t.Fatalf("% x", p)
		}
		for i, was := range l {
			for _, n := range []int64{was - 1, was + 1, -was, 0, 1, 2, 3, 5, 6, 7, 8, 12, 14, 29, 100, 256, 257, 260, 4096, 1 << 32, math.MinInt64, math.MinInt64 + 1, math.MaxInt64} {
				l[i] = n
				wantNoneOrIts(t, img, input, bytesOf(l))
				l[i] = was
			}
		}
	}
}

// field tells where a number that was saved stands, as long as nothing was printed and no cell is in use.
const (
	fieldSteps = iota
	fieldEnd
	fieldAt
	fieldRead
	fieldMarks
	fieldExit
	fieldOuts
	fieldCells
	fieldCalls
)

// TestLoadOfCountsThatAreNone: fewer steps than were needed, more read than there is, an exit of what hasn't halted, ends and calls as there are none.
func TestLoadOfCountsThatAreNone(t *testing.T) {
	img := alone(2, op(api.MRead, 1), op(api.MMark), op(api.MTop, 0), op(api.MTop, 0), op(api.MRet, 1))
	input := []int64{3, 4}
	at := map[int][]byte{}
	for i, p := range saves(t, img, input) {
		at[i] = p
	}
	changed := func(steps, field int, n int64) []byte {
		l := numbersOf(t, at[steps])
		l[field] = n
		return bytesOf(l)
	}
	for _, p := range [][]byte{
		changed(2, fieldSteps, 1), changed(2, fieldSteps, 0), changed(2, fieldSteps, -1), changed(2, fieldSteps, math.MinInt64), changed(0, fieldSteps, -1),
		changed(4, fieldRead, 3), changed(4, fieldRead, -1), changed(4, fieldMarks, 4), changed(4, fieldMarks, -1), changed(4, fieldMarks, math.MaxInt64),
		changed(4, fieldExit, 1), changed(4, fieldEnd, api.Halt), changed(5, fieldEnd, 0), changed(5, fieldEnd, api.Wrong), changed(4, fieldEnd, api.StopFuel), changed(4, fieldEnd, 9), changed(4, fieldEnd, 256), changed(4, fieldEnd, 256+api.Wrong), changed(4, fieldEnd, -1),
		changed(4, fieldCalls, 0), changed(4, fieldCalls, 2), changed(4, fieldCalls, -1), changed(5, fieldCalls, 1), changed(4, fieldOuts, 1), changed(4, fieldOuts, math.MaxInt64), changed(4, fieldCells, -1),
	} {
		if wantNoneOrIts(t, img, input, p) {
			t.Errorf("% x", p)
		}
	}
	for _, p := range [][]byte{changed(4, fieldSteps, 9), changed(4, fieldRead, 2), changed(4, fieldMarks, 3), changed(5, fieldExit, -8), changed(4, fieldEnd, api.TrapIn), changed(4, fieldEnd, api.Wrong)} {
		if !wantNoneOrIts(t, img, input, p) {
			t.Errorf("% x", p)
		}
	}
}

// TestLoadOfTooMuch: more calls, cells, arguments and slots than there may be.
func TestLoadOfTooMuch(t *testing.T) {
	img := alone(2, op(api.MRead, 1), op(api.MArg, 1), with(api.MCall, 0, 1))
	input := slices.Repeat([]int64{9}, 100)
	l := numbersOf(t, ahead(t, img, input, 300).Save())
	// Main's call has no argument, each other one has 1, the innermost one has another one ready.
	size := 2 + 16 + 1 + 2 + 1
	if l[fieldCalls] != 100 || len(l) != fieldCalls+1+100*size {
		t.Fatal(l[fieldCalls], len(l))
	}
	more := slices.Insert(slices.Clone(l), len(l)-1-2*size, l[len(l)-1-2*size:len(l)-1-size]...)
	more[fieldCalls]++
	if wantNoneOrIts(t, img, input, bytesOf(more)) {
		t.Error("more than MaxCalls calls")
	}
	for _, cells := range []int{4095, 4096, 4097} {
		q := slices.Insert(slices.Clone(l), fieldCells+1, make([]int64, cells)...)
		q[fieldCells] = int64(cells)
		if wantNoneOrIts(t, img, input, bytesOf(q)) != (cells <= 4096) {
			t.Error("so many cells:", cells)
		}
	}
}

// TestLoadOfTooManyArguments: those that a call has, and those that it has laid ready; Main's has none, nor has one that waits any ready.
func TestLoadOfTooManyArguments(t *testing.T) {
	img := several([]api.Word{op(api.MArg, 1), with(api.MCall, 1, 1), op(api.MRet, 1)}, []api.Word{op(api.MTop, 1), op(api.MTop, 1)})
	l := numbersOf(t, ahead(t, img, nil, 3).Save())
	const one = 2 + 16 + 1 // ahead of its arguments
	main, inner := fieldCalls+1, fieldCalls+1+one+2
	list := func(at, n int) []byte {
		q := slices.Delete(slices.Clone(l), at, at+1+int(l[at]))
		return bytesOf(slices.Insert(q, at, append([]int64{int64(n)}, make([]int64, n)...)...))
	}
	for _, x := range []struct{ at, most int }{{main + one, 0}, {main + one + 1, 0}, {inner + one, api.MaxParams}, {inner + one + 2, api.MaxParams}} {
		for n := range 9 {
			if wantNoneOrIts(t, img, nil, list(x.at, n)) != (n <= x.most) {
				t.Error("so many:", n, "not", x.most)
			}
		}
	}
}

// TestLoadOfAnotherImage: that of no machine of this image is refused, or it is one of this image, too.
func TestLoadOfAnotherImage(t *testing.T) {
	img, input := busy(), busyInput()
	l := saves(t, img, input)
	other := func(change func(img *api.Image)) api.Image {
		x := busy()
		change(&x)
		return x
	}
	images := []api.Image{alone(0, op(api.MRet)), alone(9, img.Words...), {Entries: []api.Entry{{}}}, nested(api.Word{}), marking()}
	for i := range img.Words {
		images = append(images, other(func(x *api.Image) { x.Words[i] = api.Word{} }), other(func(x *api.Image) { x.Words[i] = op(api.MRet, 7) }), other(func(x *api.Image) { x.Words = x.Words[:i] }))
	}
	for _, slots := range []int{0, 1, -1, api.MaxSlots + 1} {
		images = append(images, other(func(x *api.Image) { x.Entries[0].Slots = slots }), other(func(x *api.Image) { x.Entries[1].Slots = slots }))
	}
	for fn := range int64(4) {
		images = append(images, other(func(x *api.Image) { x.Words[6].Imm = fn }), other(func(x *api.Image) { x.Words[12].Imm = fn }))
	}
	images = append(images, other(func(x *api.Image) { x.Main = 1 }), other(func(x *api.Image) { x.Entries = x.Entries[:1] }), other(func(x *api.Image) { x.Entries = append(x.Entries, x.Entries[0]); x.Main = 2 }))
	for _, x := range images {
		for _, p := range l {
			wantNoneOrIts(t, x, input, p)
		}
	}
	if _, e := vm.Load(other(func(x *api.Image) { x.Main = 2 }), input, l[0]); e != api.ErrForm {
		t.Error(e)
	}
}

// TestLoadOfAnotherImageThatCanNotBe: the calls, or their slots, are none of this image's.
func TestLoadOfAnotherImageThatCanNotBe(t *testing.T) {
	main := []api.Word{number(1, 5), with(api.MOut, 1, 1), with(api.MCall, 1, 2), op(api.MRet, 2)}
	f := []api.Word{with(api.MOut, 1, 2), number(1, 5), with(api.MOut, 1, 1), op(api.MRet, 1)}
	with3 := func(change func(img *api.Image)) api.Image {
		img := several(main, f)
		img.Entries[0].Slots, img.Entries[1].Slots = 2, 2
		change(&img)
		return img
	}
	img := with3(func(img *api.Image) {})
	p := ahead(t, img, nil, 6).Save()
	if !wantNoneOrIts(t, img, nil, p) {
		t.Fatal("what was saved isn't loaded")
	}
	for i, change := range []func(img *api.Image){
		func(img *api.Image) { img.Entries[0].Slots = 1 }, func(img *api.Image) { img.Entries[1].Slots = 1 }, func(img *api.Image) { img.Entries[0].Slots = -1 }, func(img *api.Image) { img.Entries[1].Slots = api.MaxSlots + 1 },
		func(img *api.Image) { img.Main = 1 }, func(img *api.Image) { img.Entries = img.Entries[:1] }, func(img *api.Image) { img.Words[2].Imm = 0 }, func(img *api.Image) { img.Words[2] = op(api.MTop, 2) },
		func(img *api.Image) { img.Words[2] = with(api.MJump, 1) }, func(img *api.Image) { img.Words[2].B = 1 }, func(img *api.Image) { img.Words = img.Words[:2] }, func(img *api.Image) { img.Words = nil },
	} {
		if wantNoneOrIts(t, with3(change), nil, p) {
			t.Error("a machine of another image", i)
		}
	}
	// A function that can't be called has no open call, even if it has no slot that was written to.
	empty := ahead(t, with3(func(img *api.Image) {}), nil, 3).Save()
	if wantNoneOrIts(t, with3(func(img *api.Image) { img.Entries[1].Slots = -1 }), nil, empty) {
		t.Error("a call of a function that can't be called")
	}
}

// TestLoadOfAnotherInput: of which as much must be there as was read.
func TestLoadOfAnotherInput(t *testing.T) {
	img, input := busy(), busyInput()
	for _, p := range saves(t, img, input) {
		m := load(t, img, input, p)
		read := m.Status().Read
		for n := range len(input) + 1 {
			if wantNoneOrIts(t, img, input[:n], p) != (read <= n) {
				t.Error("so much of the input:", n, "of which was read:", read)
			}
			other := slices.Repeat([]int64{-5}, n)
			wantNoneOrIts(t, img, other, p)
		}
	}
}
