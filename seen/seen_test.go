package seen_test

import (
	"reflect"
	"testing"

	"teasel/api"
	"teasel/locs"
	"teasel/seen"
	"teasel/vet"
	"teasel/vm"
)

// image is one whose Main puts 7 into a register and 9 into a slot, marks, and calls a function of two frames that marks, and divides by nought.
func image(t *testing.T) (api.Image, api.Debug) {
	t.Helper()
	d := api.Debug{
		Stops: [][]api.Spot{{{Fn: 0, Stmt: 1}}, {{Fn: 0, Stmt: 2}}, {{Fn: 2, Stmt: 5}, {Fn: 1, Stmt: 4}}},
		Marks: []api.Mark{
			{Stop: 0, Locs: []api.Loc{{Var: 3, Kind: api.LSlot, Arg: 1, A: -1, B: 2}, {Var: 1, Kind: api.LReg, Arg: 5, A: 1 << 62, B: 1}, {Var: 2, Kind: api.LNum, B: -4}}},
			{Stop: 1, Locs: []api.Loc{{Var: 1, Kind: api.LReg, Arg: 5, A: 2, B: 1}}},
			{Stop: 2, Locs: []api.Loc{{Depth: 1, Var: 0, Kind: api.LReg, Arg: 0, A: 1}, {Depth: 0, Var: 6, Kind: api.LNum, B: 8}, {Depth: 1, Var: 4, Kind: api.LReg, Arg: 0, A: 3, B: 3}}},
			{Stop: 2},
		},
		Sites: []api.Site{{At: 5, Mark: 1}, {At: 9, Mark: 3}},
	}
	p, e := locs.Encode(d)
	if e != api.OK {
		t.Fatal(e)
	}
	img := api.Image{
		Words: []api.Word{
			{Op: api.MNum, A: 5, Imm: 7}, {Op: api.MNum, A: 1, Imm: 9}, {Op: api.MOut, A: 1, Imm: 1}, {Op: api.MMark},
			{Op: api.MArg, A: 1}, {Op: api.MCall, A: 1, Imm: 1}, {Op: api.MRet, A: 1},
			{Op: api.MGive}, {Op: api.MMark, Imm: 2}, {Op: api.Div, B: 0, C: 3}, {Op: api.MRet},
		},
		Entries: []api.Entry{{Slots: 2}, {At: 7}},
		Debug:   p,
	}
	if at, e := vet.Check(img); e != api.OK {
		t.Fatal(at, e)
	}
	return img, d
}

func shown(v int, n int64) api.Shown {
	return api.Shown{Var: v, Has: true, N: n}
}

func TestFrames(t *testing.T) {
	img, d := image(t)
	m, _ := vm.New(img, nil)
	for _, want := range [][]api.Frame{
		{{Fn: 0, Stmt: 1, Vars: []api.Shown{shown(1, -1<<62+1), shown(2, -4), shown(3, -7)}}},
		{{Fn: 2, Stmt: 5, Vars: []api.Shown{shown(6, 8)}}, {Fn: 1, Stmt: 4, Vars: []api.Shown{shown(0, 9), shown(4, 30)}}, {Fn: 0, Stmt: 2, Vars: []api.Shown{shown(1, 15)}}},
	} {
		if !m.ToMark(99) {
			t.Fatal(m.Status())
		}
		if l := seen.Frames(img, d, m.Calls()); !reflect.DeepEqual(l, want) {
			t.Errorf("%+v, not\n%+v", l, want)
		}
	}
	if l := seen.Frames(img, d, nil); l != nil {
		t.Error(l)
	}
}

// TestSites: of what calls, and of what traps; of nothing else.
func TestSites(t *testing.T) {
	img, d := image(t)
	m, _ := vm.New(img, nil)
	m.Run(99)
	if s := m.Status(); s.End != api.TrapZero || s.At != 9 {
		t.Fatal(s)
	}
	for at := -1; at < 12; at++ {
		mark, is := seen.Site(d, at)
		switch at {
		case 5:
			if !is || mark != 1 {
				t.Error(mark, is)
			}
		case 9:
			if !is || mark != 3 || !reflect.DeepEqual(seen.Spots(d, mark), d.Stops[2]) {
				t.Error(mark, is, seen.Spots(d, mark))
			}
		default:
			if is || mark != 0 {
				t.Error(at, mark, is)
			}
		}
	}
	l := seen.Spots(d, 3)
	l[0].Fn = 99
	if d.Stops[2][0].Fn != 2 {
		t.Error("the answer is the debug information's own")
	}
}
