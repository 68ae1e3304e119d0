package locs_test

import (
	"bytes"
	"math"
	"slices"
	"testing"

	"teasel/api"
	"teasel/locs"
)

// example is the chapter's.
func example() api.Debug {
	return api.Debug{
		Stops: [][]api.Spot{{{Fn: 0, Stmt: 1}}},
		Marks: []api.Mark{{Stop: 0, Locs: []api.Loc{{Depth: 0, Var: 2, Kind: api.LReg, Arg: 3, A: 1, B: 0}}}},
		Sites: []api.Site{{At: 5, Mark: 0}},
	}
}

// some has several of each.
func some() api.Debug {
	return api.Debug{
		Stops: [][]api.Spot{{{Fn: 0, Stmt: 1}}, {{Fn: 2, Stmt: 300}, {Fn: 1, Stmt: 4}}, {{Fn: 0, Stmt: 0}}},
		Marks: []api.Mark{
			{Stop: 1, Locs: []api.Loc{{Depth: 1, Var: 2, Kind: api.LReg, Arg: 3, A: 1}, {Var: 2, Kind: api.LNum, B: -7}, {Var: 0, Kind: api.LSlot, Arg: 700, A: -3, B: 9}}},
			{Stop: 0},
			{Stop: 1, Locs: []api.Loc{{Var: 5, Kind: api.LReg, A: 4}, {Depth: 1, Var: 5, Kind: api.LReg, A: 4}}},
			{Stop: 2, Locs: []api.Loc{{Var: 5, Kind: api.LNum}}},
		},
		Sites: []api.Site{{At: 0, Mark: 3}, {At: 1, Mark: 0}, {At: 400, Mark: 0}},
	}
}

func TestTheChaptersExample(t *testing.T) {
	p := hold(t, example())
	if want := []byte{0x54, 0x53, 0x4c, 0x31, 0x01, 0x01, 0x00, 0x01, 0x01, 0x00, 0x01, 0x00, 0x02, 0x02, 0x03, 0x02, 0x00, 0x01, 0x05, 0x00}; !bytes.Equal(p, want) {
		t.Errorf("% x, want % x", p, want)
	}
}

func TestSome(t *testing.T) {
	p := hold(t, some())
	want := packet(3, 1, 0, 1, 2, 2, 0xf9, 1, 0x2c, 1, 4, 1, 0, 0,
		4, 1, 3, 1, 2, 2, 3, 2, 0, 0, 2, 1, 13, 0, 0, 3, 0xf9, 2, 0xbc, 5, 18, 0, 0, 1, 2, 0, 5, 2, 0, 8, 0, 1, 5, 2, 0, 8, 0, 2, 1, 0, 5, 1, 0,
		3, 0, 3, 1, 0, 0xf9, 1, 0x8f, 0)
	if !bytes.Equal(p, want) {
		t.Errorf("% x, want % x", p, want)
	}
}

// TestNothing: no stop, no mark, no site, nil or empty; and each without those that need it.
func TestNothing(t *testing.T) {
	for _, d := range []api.Debug{{}, {Stops: [][]api.Spot{}, Marks: []api.Mark{}, Sites: []api.Site{}}} {
		if p := hold(t, d); !bytes.Equal(p, packet(0, 0, 0)) {
			t.Errorf("% x", p)
		}
	}
	d := some()
	d.Sites = nil
	hold(t, d)
	d.Marks[0].Locs = []api.Loc{}
	hold(t, d)
	d.Marks = nil
	hold(t, d)
}

// TestNumbers: each field but A and B takes those from 0 to 2^31 - 1, unless there are fewer places, and none else.
func TestNumbers(t *testing.T) {
	for n, want := range map[int][]byte{
		0: {0}, 1: {1}, 0x7f: {0x7f}, 0x80: {0x80}, 0xf7: {0xf7}, 0xf8: {0xf8, 0xf8}, 0xff: {0xf8, 0xff}, 0x100: {0xf9, 1, 0}, 0xffff: {0xf9, 0xff, 0xff},
		0x10000: {0xfa, 1, 0, 0}, 0xffffff: {0xfa, 0xff, 0xff, 0xff}, 0x1000000: {0xfb, 1, 0, 0, 0}, greatest: {0xfb, 0x7f, 0xff, 0xff, 0xff},
	} {
		d := api.Debug{Stops: [][]api.Spot{{{Fn: n, Stmt: n}}}, Marks: []api.Mark{{Locs: []api.Loc{{Var: n, Kind: api.LNum}}}}, Sites: []api.Site{{At: n}}}
		p := hold(t, d)
		if q := slices.Concat(packet(1, 1), want, want, []byte{1, 0, 1, 0}, want, []byte{1, 0, 1}, want, []byte{0}); !bytes.Equal(p, q) {
			t.Errorf("%x: % x, want % x", n, p, q)
		}
	}
	for _, n := range []int{-1, -2, greatest + 1, greatest + 2, 1<<32 - 1, 1 << 32, 1<<32 + 1, math.MinInt, math.MinInt + 1, math.MaxInt} {
		for _, change := range changes() {
			d := some()
			change(&d, n)
			wantWrong(t, d)
		}
	}
}

// changes puts a number at each place at which one stands.
func changes() []func(d *api.Debug, n int) {
	return []func(d *api.Debug, n int){
		func(d *api.Debug, n int) { d.Stops[0][0].Fn = n },
		func(d *api.Debug, n int) { d.Stops[1][1].Fn = n },
		func(d *api.Debug, n int) { d.Stops[0][0].Stmt = n },
		func(d *api.Debug, n int) { d.Stops[1][1].Stmt = n },
		func(d *api.Debug, n int) { d.Marks[0].Stop = n },
		func(d *api.Debug, n int) { d.Marks[1].Stop = n },
		func(d *api.Debug, n int) { d.Marks[0].Locs[0].Depth = n },
		func(d *api.Debug, n int) { d.Marks[0].Locs[1].Depth = n },
		func(d *api.Debug, n int) { d.Marks[0].Locs[2].Depth = n },
		func(d *api.Debug, n int) { d.Marks[0].Locs[0].Var = n },
		func(d *api.Debug, n int) { d.Marks[0].Locs[1].Var = n },
		func(d *api.Debug, n int) { d.Marks[0].Locs[2].Var = n },
		func(d *api.Debug, n int) { d.Marks[0].Locs[0].Arg = n },
		func(d *api.Debug, n int) { d.Marks[0].Locs[1].Arg = n },
		func(d *api.Debug, n int) { d.Marks[0].Locs[2].Arg = n },
		func(d *api.Debug, n int) { d.Sites[0].At = n },
		func(d *api.Debug, n int) { d.Sites[2].At = n },
		func(d *api.Debug, n int) { d.Sites[0].Mark = n },
		func(d *api.Debug, n int) { d.Sites[2].Mark = n },
	}
}

// TestAnyNumberAnywhere: whatever stands at a place, it is right just where the chapter says so.
func TestAnyNumberAnywhere(t *testing.T) {
	for _, change := range changes() {
		right := 0
		for _, n := range []int{-1, 0, 1, 2, 3, 4, 5, 14, 15, 16, 17, 399, 400, 401, 700, api.MaxSlots - 1, api.MaxSlots, greatest - 1, greatest} {
			d := some()
			change(&d, n)
			if hold(t, d) != nil {
				right++
			}
		}
		if right == 0 {
			t.Error("no number is right there")
		}
	}
}

// TestAAndB: of any size, below 0, too.
func TestAAndB(t *testing.T) {
	for n, want := range map[int64][]byte{
		0: {0}, -1: {1}, 1: {2}, -2: {3}, 123: {0xf6}, -124: {0xf7}, 124: {0xf8, 0xf8}, -125: {0xf8, 0xf9}, 127: {0xf8, 0xfe}, -128: {0xf8, 0xff}, 128: {0xf9, 1, 0},
		1<<55 - 1: {0xfe, 0xff, 0xff, 0xff, 0xff, 0xff, 0xff, 0xfe}, -1 << 55: {0xfe, 0xff, 0xff, 0xff, 0xff, 0xff, 0xff, 0xff}, 1 << 55: {0xff, 1, 0, 0, 0, 0, 0, 0, 0},
		1 << 31: {0xfc, 1, 0, 0, 0, 0}, -1 << 31: {0xfb, 0xff, 0xff, 0xff, 0xff},
		math.MaxInt64: {0xff, 0xff, 0xff, 0xff, 0xff, 0xff, 0xff, 0xff, 0xfe}, math.MinInt64: {0xff, 0xff, 0xff, 0xff, 0xff, 0xff, 0xff, 0xff, 0xff},
	} {
		for kind := byte(api.LReg); kind <= api.LSlot; kind++ {
			d := example()
			d.Marks[0].Locs[0] = api.Loc{Var: 2, Kind: kind, Arg: 3, A: n, B: n}
			p := hold(t, d)
			if q := slices.Concat(packet(1, 1, 0, 1, 1, 0, 1, 0, 2, kind, 3), want, want, []byte{1, 5, 0}); !bytes.Equal(p, q) {
				t.Errorf("%d: % x, want % x", n, p, q)
			}
		}
		d := example()
		d.Marks[0].Locs[0] = api.Loc{Var: 2, Kind: api.LNum, B: n}
		p := hold(t, d)
		if q := slices.Concat(packet(1, 1, 0, 1, 1, 0, 1, 0, 2, 1), want, []byte{1, 5, 0}); !bytes.Equal(p, q) {
			t.Errorf("%d: % x, want % x", n, p, q)
		}
	}
}

// TestStopsWithoutAFrame: beside others, and with marks or without.
func TestStopsWithoutAFrame(t *testing.T) {
	for _, none := range [][]api.Spot{nil, {}} {
		for i := range 4 {
			d := some()
			d.Stops = slices.Insert(d.Stops, i, none)
			wantWrong(t, d)
			d.Marks, d.Sites = nil, nil
			wantWrong(t, d)
		}
	}
	wantNone(t, packet(1, 0, 0, 0))
	wantNone(t, packet(2, 1, 0, 0, 0, 0, 0))
}

// TestPlaces: a mark's Stop and a site's Mark are the last one's at most.
func TestPlaces(t *testing.T) {
	for n, want := range map[int]bool{-1: false, 0: true, 3: true, 4: false, 5: false} {
		stops := slices.Repeat([][]api.Spot{{{Fn: 1, Stmt: 2}}}, 4)
		d := api.Debug{Stops: stops, Marks: []api.Mark{{Stop: n}}}
		if hold(t, d); locs.Form(d) != want {
			t.Error("Stop", n)
		}
		d = api.Debug{Stops: stops, Marks: make([]api.Mark, 4), Sites: []api.Site{{At: 7, Mark: n}}}
		if hold(t, d); locs.Form(d) != want {
			t.Error("Mark", n)
		}
	}
	wantWrong(t, api.Debug{Marks: []api.Mark{{}}})
	wantWrong(t, api.Debug{Stops: [][]api.Spot{{{}}}, Sites: []api.Site{{}}})
	wantNone(t, packet(0, 1, 0, 0, 0))
	wantNone(t, packet(1, 1, 0, 0, 1, 1, 0, 0))
	wantNone(t, packet(1, 1, 0, 0, 1, 0, 0, 1, 0, 1))
}

// TestKinds: each, one below and above, and their Args at their bounds.
func TestKinds(t *testing.T) {
	for kind := range 256 {
		for arg, want := range map[int]bool{-1: false, 0: kind >= 1 && kind <= 3, 1: kind == 2 || kind == 3, api.Regs - 1: kind == 2 || kind == 3, api.Regs: kind == 3, api.MaxSlots - 1: kind == 3, api.MaxSlots: false, api.MaxSlots + 1: false} {
			d := example()
			d.Marks[0].Locs[0] = api.Loc{Kind: byte(kind), Arg: arg}
			if hold(t, d); locs.Form(d) != want {
				t.Error(kind, arg)
			}
		}
		for _, a := range []int64{1, -1, math.MinInt64, math.MaxInt64} {
			d := example()
			d.Marks[0].Locs[0] = api.Loc{Kind: byte(kind), A: a, B: a}
			if hold(t, d); locs.Form(d) != (kind == 2 || kind == 3) {
				t.Error(kind, a)
			}
		}
		holdBytes(t, packet(1, 1, 0, 1, 1, 0, 1, 0, 2, byte(kind), 0, 0))
		holdBytes(t, packet(1, 1, 0, 1, 1, 0, 1, 0, 2, byte(kind), 0, 0, 0, 0))
		holdBytes(t, packet(1, 1, 0, 1, 1, 0, 1, 0, 2, 0xf8, byte(kind), 0, 0, 0, 0))
		// A Kind is a number, too: one beyond 255 isn't the one that is left of it modulo 256.
		holdBytes(t, packet(1, 1, 0, 1, 1, 0, 1, 0, 2, 0xf9, 1, byte(kind), 0, 0, 0, 0))
	}
}

// TestDepths: of stops with 1, 2 and 3 frames.
func TestDepths(t *testing.T) {
	for frames := 1; frames <= 3; frames++ {
		for depth := -1; depth <= 4; depth++ {
			d := api.Debug{Stops: [][]api.Spot{make([]api.Spot, 3), make([]api.Spot, frames), make([]api.Spot, 3)}, Marks: []api.Mark{{Stop: 1, Locs: []api.Loc{{Depth: depth, Kind: api.LNum}}}}}
			if hold(t, d); locs.Form(d) != (depth >= 0 && depth < frames) {
				t.Error(frames, depth)
			}
		}
	}
}

// TestTwoOfOneVariable: in one mark, next to each other or not, by other Kinds, too; in two marks each may be known.
func TestTwoOfOneVariable(t *testing.T) {
	one, other, deeper := api.Loc{Var: 4, Kind: api.LReg, Arg: 2, A: 1}, api.Loc{Var: 5, Kind: api.LReg, Arg: 2, A: 1}, api.Loc{Depth: 1, Var: 4, Kind: api.LReg, Arg: 2, A: 1}
	again := api.Loc{Var: 4, Kind: api.LNum, B: 1}
	turned := api.Loc{Depth: 1, Var: 0, Kind: api.LNum}
	for _, x := range []struct {
		marks [][]api.Loc
		want  bool
	}{
		{[][]api.Loc{{one, one}}, false}, {[][]api.Loc{{one, again}}, false}, {[][]api.Loc{{one, other, deeper, again}}, false}, {[][]api.Loc{{other}, {deeper, other, deeper}}, false},
		{[][]api.Loc{{one, other, deeper}}, true}, {[][]api.Loc{{one}, {one}}, true}, {[][]api.Loc{{one, deeper}, {again, deeper}, {one}}, true}, {[][]api.Loc{{turned, {Var: 1, Kind: api.LNum}}}, true},
	} {
		d := api.Debug{Stops: [][]api.Spot{{{}, {}}}}
		for _, l := range x.marks {
			d.Marks = append(d.Marks, api.Mark{Locs: l})
		}
		if hold(t, d); locs.Form(d) != x.want {
			t.Error(x)
		}
	}
	wantNone(t, packet(1, 1, 0, 0, 1, 0, 2, 0, 4, 1, 0, 0, 4, 1, 0, 0))
	wantNone(t, packet(1, 1, 0, 0, 1, 0, 2, 0, 4, 1, 0, 0, 4, 1, 1, 0))
	wantDebug(t, packet(1, 1, 0, 0, 1, 0, 2, 0, 4, 1, 0, 0, 5, 1, 0, 0), api.Debug{Stops: [][]api.Spot{{{}}}, Marks: []api.Mark{{Locs: []api.Loc{{Var: 4, Kind: 1}, {Var: 5, Kind: 1}}}}})
}

// TestSitesThatRise: and those that stay, fall, or go beyond the greatest number.
func TestSitesThatRise(t *testing.T) {
	for _, x := range []struct {
		at   []int
		want bool
	}{
		{[]int{0}, true}, {[]int{greatest}, true}, {[]int{0, 1}, true}, {[]int{0, 1, 2, 3, 300, 5000}, true}, {[]int{7, greatest - 1, greatest}, true}, {[]int{0, greatest}, true},
		{[]int{0, 0}, false}, {[]int{5, 5}, false}, {[]int{1, 0}, false}, {[]int{0, 5, 4}, false}, {[]int{0, 5, 5, 6}, false}, {[]int{greatest, greatest}, false}, {[]int{greatest, 0}, false},
		{[]int{-1}, false}, {[]int{-1, 0}, false}, {[]int{0, -1}, false}, {[]int{5, math.MinInt}, false}, {[]int{math.MinInt, 5}, false}, {[]int{0, greatest, greatest + 1}, false}, {[]int{0, math.MaxInt}, false},
	} {
		d := api.Debug{Stops: [][]api.Spot{{{}}}, Marks: []api.Mark{{}}}
		for _, at := range x.at {
			d.Sites = append(d.Sites, api.Site{At: at})
		}
		if hold(t, d); locs.Form(d) != x.want {
			t.Error(x)
		}
	}
	few := []byte{1, 1, 0, 0, 1, 0, 0}
	wantNone(t, append(packet(few...), 2, 5, 0, 0, 0))
	wantNone(t, append(packet(few...), 2, 0, 0, 0, 0))
	wantNone(t, append(packet(few...), 2, 5, 0, 0xfb, 0x7f, 0xff, 0xff, 0xff, 0))
	wantNone(t, append(packet(few...), 2, 5, 0, 0xff, 0xff, 0xff, 0xff, 0xff, 0xff, 0xff, 0xff, 0xfe, 0))
	wantNone(t, append(packet(few...), 1, 0xfb, 0x80, 0, 0, 0, 0))
	wantNone(t, append(packet(few...), 1, 0xff, 0xff, 0xff, 0xff, 0xff, 0xff, 0xff, 0xff, 0xff, 0))
	d := api.Debug{Stops: [][]api.Spot{{{}}}, Marks: []api.Mark{{}}, Sites: []api.Site{{At: 1}, {At: greatest}}}
	wantDebug(t, append(packet(few...), 2, 1, 0, 0xfb, 0x7f, 0xff, 0xff, 0xfe, 0), d)
}
