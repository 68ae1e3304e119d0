package alloc_test

import (
	"testing"

	"teasel/alloc"
	"teasel/api"
	. "teasel/parts"
)

// room is how many registers there are for values.
const room = api.Regs - alloc.Spare

// atOnce is code in which so many values are live at once; where they are told, as what a mark knows alone.
func atOnce(n int, told bool) api.Code {
	var made, used []api.Inst
	mark := Mark()
	for v := range n {
		made, used = append(made, Read(v)), append(used, Show(v))
		mark.Dbg = append(mark.Dbg, IsValue(v, v, 1, 0))
	}
	if told {
		used = []api.Inst{mark}
	}
	c := Main(Ends(append(made, used...)...))
	c.Funs[0].Vals = n
	return c
}

// wantSlots holds how many values of the first function stand in slots, which are numbered from 0 on.
func wantSlots(t *testing.T, name string, c api.Code, all bool, want int) []alloc.Place {
	t.Helper()
	l := mustPlace(t, c, 0, all)
	if n, _ := count(l, alloc.Slot); n != want {
		t.Errorf("%s: %d stand in slots, not %d: %v", name, n, want, l)
	}
	_, unlike := count(l, alloc.Slot)
	for v, p := range l {
		if p.Kind == alloc.Slot && p.N >= unlike {
			t.Errorf("%s: %d stands in the slot %d of %d", name, v, p.N, unlike)
		}
	}
	return l
}

// TestAsManyAtOnceAsThereAreRegisters: one less, one more, and many more.
func TestAsManyAtOnceAsThereAreRegisters(t *testing.T) {
	for _, n := range []int{0, 1, 2, room - 1, room, room + 1, room + 2, api.Regs, 3 * room, 100, 500} {
		over := max(0, n-room)
		for _, all := range []bool{false, true} {
			l := wantSlots(t, "used", atOnce(n, false), all, over)
			_, registers := count(l, alloc.Register)
			_, slots := count(l, alloc.Slot)
			if registers != n-over || slots != over {
				t.Errorf("%d values stand in %d registers and %d slots", n, registers, slots)
			}
		}
		wantSlots(t, "told, without all", atOnce(n, true), false, 0)
		wantSlots(t, "told, with all", atOnce(n, true), true, over)
	}
}

// TestPlacesAreUsedAgain: values that are live one behind the other need few.
func TestPlacesAreUsedAgain(t *testing.T) {
	var l []api.Inst
	for v := range 200 {
		l = append(l, Read(v), Show(v))
	}
	c := Main(Ends(l...))
	c.Funs[0].Vals = 200
	if _, n := count(wantSlots(t, "a row", c, false, 0), alloc.Register); n > room {
		t.Error(n)
	}
	c = atOnce(30, false)
	b := &c.Funs[0].Blocks[0]
	for v := 30; v < 60; v++ {
		b.Insts = append(b.Insts, Read(v))
	}
	for v := 30; v < 60; v++ {
		b.Insts = append(b.Insts, Show(v))
	}
	c.Funs[0].Vals = 60
	if n, unlike := count(mustPlace(t, c, 0, false), alloc.Slot); n != 2*(30-room) || unlike != 30-room {
		t.Error(n, unlike)
	}
}

// TestValuesThatAreNotMade: they stand nowhere, whatever number they have; so do all where none is made.
func TestValuesThatAreNotMade(t *testing.T) {
	c := Program(Fun(0, Ends(Read(3), Call(40, 1), Call(-1, 1), Show(3))), Fun(0, Ends()))
	l := mustPlace(t, c, 0, false)
	for v, p := range l {
		if (p == alloc.Place{}) == (v == 3 || v == 40) {
			t.Error(v, p)
		}
	}
	if l := mustPlace(t, c, 1, true); len(l) != 50 {
		t.Error(l)
	}
	if l := mustPlace(t, api.Code{Funs: []api.Fun{{Blocks: []api.Block{Ends()}}}}, 0, true); len(l) != 0 {
		t.Error(l)
	}
}

// TestValuesThatNobodyUses: they stand where nothing stands that is live as they are made.
func TestValuesThatNobodyUses(t *testing.T) {
	for n := room - 2; n < room+3; n++ {
		c := atOnce(n, false)
		f := &c.Funs[0]
		f.Vals = n + 3
		l := f.Blocks[0].Insts
		f.Blocks[0].Insts = append(append(append([]api.Inst{Number(n+1, 1)}, l[:n]...), Number(n, 1), Read(n+2)), l[n:]...)
		mustPlace(t, c, 0, false)
	}
	// Of phis that nobody uses, too.
	c := Main(Goes(1, Number(0, 1)), Behind(Branch(1, 2, 3, Read(1)), Phi(2, 0, 2), Phi(3, 0, 3), Phi(4, 0, 0)), Goes(1), Ends(Show(0)))
	l := mustPlace(t, c, 0, false)
	if l[2] == l[3] || l[3] == l[4] || l[2] == l[4] || l[0] == l[4] {
		t.Error(l)
	}
}

// TestPhisAtOnce: so many of one block, that take what each other had.
func TestPhisAtOnce(t *testing.T) {
	for _, n := range []int{1, 2, room - 1, room, room + 1, 40} {
		f := Fun(0, Goes(1), Goes(2), Ends())
		f.Vals = 2*n + 1
		for v := range n {
			f.Blocks[0].Insts = append(f.Blocks[0].Insts, Read(v))
			f.Blocks[1].Phis = append(f.Blocks[1].Phis, Phi(n+v, v, n+(v+1)%n))
			f.Blocks[2].Insts = append(f.Blocks[2].Insts, Show(n+v))
		}
		f.Blocks[1] = Behind(Branch(2*n, 3, 2, Read(2*n)), f.Blocks[1].Phis...)
		f.Blocks = append(f.Blocks, Goes(1))
		for _, all := range []bool{false, true} {
			l := mustPlace(t, Program(f), 0, all)
			if _, unlike := count(l[n:2*n], alloc.Register); unlike != min(n, room) && unlike != min(n, room)-1 {
				t.Error(n, l)
			}
		}
	}
}

// TestParameters: as many as there may be, beside others.
func TestParameters(t *testing.T) {
	for more := range 12 {
		f := Fun(api.MaxParams, Ends())
		var used []api.Inst
		for v := range api.MaxParams + more {
			x := Read(v)
			if v < api.MaxParams {
				x = Param(v, v)
			}
			f.Blocks[0].Insts, used = append(f.Blocks[0].Insts, x), append(used, Show(v))
		}
		f.Blocks[0].Insts = append(f.Blocks[0].Insts, used...)
		c := Program(Fun(0, Ends()), f)
		if n, _ := count(mustPlace(t, c, 1, true), alloc.Slot); n != max(0, api.MaxParams+more-room) {
			t.Error(more, n)
		}
	}
}

// TestThroughLoops: what is live through a loop keeps its place from all that is made in it.
func TestThroughLoops(t *testing.T) {
	for _, n := range []int{1, 5, room - 5, room - 3, room - 1, room, 30} {
		f := Fun(0, Goes(1, Number(0, 0), Number(1, 1)), Behind(Branch(4, 2, 4, Read(4)), Phi(2, 0, 3)), Goes(3, Inst(api.Mul, 5, 2, 2), Inst(api.Add, 6, 5, 2), Show(6)), Goes(1, Inst(api.Add, 3, 2, 1)), Ends())
		for v := range n {
			f.Blocks[0].Insts = append(f.Blocks[0].Insts, Read(10+v))
			f.Blocks[4].Insts = append(f.Blocks[4].Insts, Show(10+v))
		}
		c := Program(f)
		for _, all := range []bool{false, true} {
			mustPlace(t, c, 0, all)
		}
		mustPlace(t, mustSplit(t, c), 0, false)
	}
}

// TestPhisLikeWhatTheyTake: a counter and its step, a copy and what it is made of, what meets, stand in one register, where they don't clash; so they do where other registers are free, too.
func TestPhisLikeWhatTheyTake(t *testing.T) {
	// Three counters, 2, 3 and 4, begin with 12, 13 and 14, and go on with 22, 23 and 24.
	c := Main(
		Goes(1, Number(14, 4), Number(1, 1), Number(12, 2), Read(7), Number(13, 3)),
		Behind(Branch(5, 2, 3, Inst(api.Lt, 5, 2, 7)), Phi(3, 13, 23), Phi(2, 12, 22), Phi(4, 14, 24)),
		Goes(1, Show(4), Inst(api.Add, 24, 4, 1), Inst(api.Add, 22, 2, 1), Inst(api.Sub, 23, 3, 1)),
		Ends(Show(2), Show(3), Show(4)))
	l := mustPlace(t, c, 0, false)
	for v := 2; v <= 4; v++ {
		if l[v] != l[10+v] || l[v] != l[20+v] {
			t.Errorf("the counter %d stands in %+v, %+v, %+v", v, l[v], l[10+v], l[20+v])
		}
	}
	c = Main(Branch(0, 1, 2, Read(5), Read(6), Read(0)), Goes(3, Inst(api.Neg, 1, 5)), Goes(3, Show(6), Inst(api.Not, 2, 5)), Behind(Answers(3), Phi(3, 1, 2)))
	if l := mustPlace(t, c, 0, false); l[1] != l[3] || l[2] != l[3] {
		t.Errorf("what meets stands in %+v", l[:8])
	}
	c = Main(Ends(Read(5), Read(6), Show(5), Inst(api.ICopy, 7, 6), Inst(api.ICopy, 8, 7), Read(1), Show(8), Show(1)))
	if l := mustPlace(t, c, 0, false); l[6] != l[7] || l[7] != l[8] {
		t.Errorf("copies stand in %+v", l[:9])
	}
}

// TestPhisThatNobodyUses: their registers are free again behind them all.
func TestPhisThatNobodyUses(t *testing.T) {
	f := Fun(0, Goes(1, Number(0, 1)), Ends())
	for v := range room - 1 {
		f.Blocks[1].Phis = append(f.Blocks[1].Phis, Phi(1+v, 0))
		f.Blocks[1].Insts = append(f.Blocks[1].Insts, Read(20+v))
	}
	for v := range room - 1 {
		f.Blocks[1].Insts = append(f.Blocks[1].Insts, Show(20+v))
	}
	wantSlots(t, "phis", Program(f), true, 0)
}

// TestFunctions: each has places of its own.
func TestFunctions(t *testing.T) {
	c := Program(atOnce(3, false).Funs[0], atOnce(room+1, true).Funs[0], Fun(0, Ends()))
	for fn, want := range [][2]int{{0, 0}, {0, 1}, {0, 0}} {
		for i, all := range []bool{false, true} {
			if n, _ := count(mustPlace(t, c, fn, all), alloc.Slot); n != want[i] {
				t.Error(fn, all, n)
			}
		}
	}
}
