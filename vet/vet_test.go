package vet_test

import (
	"math"
	"slices"
	"testing"

	"teasel/api"
)

// sound is an image with an instruction of each kind about which there is a rule; its debug information has marks and sites.
func sound(t testing.TB) api.Image {
	return api.Image{
		Words: []api.Word{
			{Op: api.MMark}, {Op: api.MIn, A: 1, Imm: 2}, {Op: api.MOut, A: 1, Imm: 1}, {Op: api.MCall, A: 1, Imm: 1}, {Op: api.MZero, A: 1, Imm: 6}, {Op: api.MRead, A: 1},
			{Op: api.MMark, Imm: 1}, {Op: api.Div, A: 1, B: 1, C: 1}, {Op: api.MJump, Imm: 9}, {Op: api.MRet, A: 1},
		},
		Entries: []api.Entry{{At: 0, Slots: 3}, {At: 9, Slots: 0}},
		Debug:   known(t, 2, 3, 5, 7),
	}
}

// short is an image of a few instructions, without marks and sites.
func short(t testing.TB, l ...api.Word) api.Image {
	return api.Image{Words: l, Entries: []api.Entry{{Slots: 2}}, Debug: known(t, 0)}
}

func TestTheChaptersExamples(t *testing.T) {
	seven, end := api.Word{Op: api.MNum, Imm: 7}, api.Word{Op: api.MRet}
	img := api.Image{Words: []api.Word{seven, end}, Entries: []api.Entry{{}}, Debug: []byte("TSL1\x00\x00\x00")}
	want(t, img, 0, api.OK)
	want(t, changed(img, func(x *api.Image) { x.Words = []api.Word{seven, {Op: api.MJump, Imm: 9}, end} }), 1, api.ErrRange)
	want(t, sound(t), 0, api.OK)
}

// TestHowManyInstructions: none, one, MaxWords, and one more; what else is broken comes behind.
func TestHowManyInstructions(t *testing.T) {
	want(t, api.Image{}, 0, api.ErrLong)
	want(t, short(t), 0, api.ErrLong)
	want(t, short(t, api.Word{Op: api.MRet}), 0, api.OK)
	for n, long := range map[int]bool{api.MaxWords - 1: false, api.MaxWords: false, api.MaxWords + 1: true, api.MaxWords + 2: true} {
		l := slices.Repeat([]api.Word{{Op: api.MTop}}, n)
		l[n-1] = api.Word{Op: api.MJump, Imm: int64(n - 1)}
		img := short(t, l...)
		for e, x := range map[api.Errno]api.Image{
			api.OK:       img,
			api.ErrArg:   changed(img, func(x *api.Image) { x.Main = 1 }),
			api.ErrRange: changed(img, func(x *api.Image) { x.Entries[0].At = -1 }),
			api.ErrForm:  changed(img, func(x *api.Image) { x.Words[0] = api.Word{} }),
			api.ErrText:  changed(img, func(x *api.Image) { x.Debug = nil }),
		} {
			if long {
				e = api.ErrLong
			}
			want(t, x, 0, e)
		}
	}
}

func TestMainIsAnEntry(t *testing.T) {
	for main, e := range map[int]api.Errno{0: api.OK, 1: api.OK, 2: api.ErrArg, -1: api.ErrArg, math.MaxInt: api.ErrArg, math.MinInt: api.ErrArg} {
		want(t, changed(sound(t), func(x *api.Image) { x.Main = main }), 0, e)
	}
	want(t, changed(sound(t), func(x *api.Image) { x.Entries = nil }), 0, api.ErrArg)
}

// TestEntries: Slots and At of each, at their bounds.
func TestEntries(t *testing.T) {
	for i := range 3 {
		img := changed(sound(t), func(x *api.Image) { x.Entries = append(x.Entries, api.Entry{At: 4, Slots: 5}) })
		for slots, e := range map[int]api.Errno{3: api.OK, api.MaxSlots: api.OK, api.MaxSlots + 1: api.ErrRange, -1: api.ErrRange, math.MaxInt: api.ErrRange, math.MinInt: api.ErrRange} {
			want(t, changed(img, func(x *api.Image) { x.Entries[i].Slots = slots }), placeOf(e, i), e)
		}
		for at, e := range map[int]api.Errno{0: api.OK, 9: api.OK, 10: api.ErrRange, -1: api.ErrRange, math.MaxInt: api.ErrRange, math.MinInt: api.ErrRange} {
			want(t, changed(img, func(x *api.Image) { x.Entries[i].At = at }), placeOf(e, i), e)
			for k := range 3 {
				want(t, changed(img, func(x *api.Image) { x.Entries[i].At = at; x.Entries[k].Slots = -1 }), broke(e, i, k), api.ErrRange)
			}
		}
	}
	want(t, changed(sound(t), func(x *api.Image) { x.Entries[0].Slots = 0; x.Entries[1].Slots = 3 }), 0, api.OK)
	want(t, changed(sound(t), func(x *api.Image) { x.Entries[0].Slots = 0; x.Entries[1].Slots = 2 }), 1, api.ErrRange)
}

// placeOf answers the place that is told beside an error, 0 beside none.
func placeOf(e api.Errno, at int) int {
	if e == api.OK {
		return 0
	}
	return at
}

// broke answers the first place of two, of which the other one is broken for sure.
func broke(e api.Errno, at, other int) int {
	if e == api.OK {
		return other
	}
	return min(at, other)
}

// TestInstructionsThatAreNotRight: anywhere.
func TestInstructionsThatAreNotRight(t *testing.T) {
	for at := range sound(t).Words {
		for _, w := range []api.Word{{}, {Op: api.LAnd}, {Op: api.Add, C: 16}, {Op: api.MTop, B: 1}, {Op: api.MJump, Imm: -1}, {Op: api.MMark, Imm: -1}, {Op: api.MIn, Imm: -1}, {Op: api.MIn, Imm: api.MaxSlots}, {Op: api.MCall, Imm: -1}, {Op: api.MRet, Imm: 1}, {Op: api.MGive, Imm: 6}, {Op: 255}} {
			want(t, changed(sound(t), func(x *api.Image) { x.Words[at] = w }), at, api.ErrForm)
		}
	}
}

// TestSlots: below the greatest of all entries.
func TestSlots(t *testing.T) {
	for _, slots := range []int{0, 1, 2, 3, 9, api.MaxSlots} {
		for _, op := range []byte{api.MIn, api.MOut} {
			for _, imm := range []int{0, slots - 1, slots, slots + 1, api.MaxSlots - 1} {
				img := short(t, api.Word{Op: api.MTop}, api.Word{Op: op, Imm: int64(imm)}, api.Word{Op: api.MRet})
				img.Entries = []api.Entry{{Slots: min(1, slots)}, {Slots: slots}, {Slots: slots / 2}}
				switch {
				case imm < 0 || imm >= api.MaxSlots:
					want(t, img, 1, api.ErrForm)
				case imm >= slots:
					want(t, img, 1, api.ErrRange)
				default:
					want(t, img, 0, api.OK)
				}
			}
		}
	}
}

// TestFunctionsAndTargets: at 0, at the last one, one beyond, and far beyond.
func TestFunctionsAndTargets(t *testing.T) {
	for imm, e := range map[int64]api.Errno{0: api.OK, 1: api.OK, 2: api.ErrRange, 3: api.ErrRange, math.MaxInt64: api.ErrRange, -1: api.ErrForm} {
		want(t, changed(sound(t), func(x *api.Image) { x.Words[3].Imm = imm }), placeOf(e, 3), e)
	}
	for imm, e := range map[int64]api.Errno{0: api.OK, 1: api.OK, 9: api.OK, 10: api.ErrRange, 11: api.ErrRange, math.MaxInt64: api.ErrRange, -1: api.ErrForm} {
		for _, at := range []int{4, 8} {
			want(t, changed(sound(t), func(x *api.Image) { x.Words[at].Imm = imm }), placeOf(e, at), e)
		}
		want(t, changed(sound(t), func(x *api.Image) { x.Words[9] = api.Word{Op: api.MJump, Imm: imm} }), placeOf(e, 9), e)
	}
}

// TestTheLastInstruction: of each Op; one that isn't right, or reaches too far, is told so ahead of that it isn't a last one, but that is one error.
func TestTheLastInstruction(t *testing.T) {
	for op := range 256 {
		w := api.Word{Op: byte(op)}
		if op == api.MAlloc {
			w.Imm = 1
		}
		img := short(t, api.Word{Op: api.MTop}, w)
		switch op {
		case api.MJump, api.MRet:
			want(t, img, 0, api.OK)
		default:
			want(t, img, 1, api.ErrForm)
		}
		if op == api.MIn || op == api.MOut || op == api.MCall || op == api.MZero {
			want(t, changed(img, func(x *api.Image) { x.Words[1].Imm = 2 }), 1, api.ErrRange)
		}
		want(t, changed(img, func(x *api.Image) { x.Debug = nil; x.Words[0] = api.Word{Op: api.MJump, Imm: 2} }), 0, api.ErrRange)
	}
}

// TestDebug: bytes that are none.
func TestDebug(t *testing.T) {
	p := sound(t).Debug
	for n := range p {
		want(t, changed(sound(t), func(x *api.Image) { x.Debug = x.Debug[:n] }), 0, api.ErrText)
	}
	for _, more := range []string{"\x00", "TSL1"} {
		want(t, changed(sound(t), func(x *api.Image) { x.Debug = append(x.Debug, more...) }), 0, api.ErrText)
	}
	want(t, changed(sound(t), func(x *api.Image) { x.Debug[0]++ }), 0, api.ErrText)
	want(t, changed(sound(t), func(x *api.Image) { x.Debug = nil; x.Words[0].Imm = 9 }), 0, api.ErrText)
}

// TestMarks: each that is named must be there; others may be, too.
func TestMarks(t *testing.T) {
	for marks := range 5 {
		img := short(t, api.Word{Op: api.MMark}, api.Word{Op: api.MMark, Imm: 2}, api.Word{Op: api.MMark, Imm: 1}, api.Word{Op: api.MRet})
		img.Debug = known(t, marks)
		switch marks {
		case 0:
			want(t, img, 0, api.ErrNone)
		case 1, 2:
			want(t, img, 1, api.ErrNone)
		default:
			want(t, img, 0, api.OK)
		}
		img.Words[2].Imm = math.MaxInt64
		if marks > 2 {
			want(t, img, 2, api.ErrNone)
		}
	}
}

// TestSites: one too few, one too many, at each address.
func TestSites(t *testing.T) {
	traps := []byte{api.Div, api.Rem, api.MLoad, api.MStore, api.MRead, api.MCall}
	for op := byte(1); op <= api.MGive; op++ {
		w := api.Word{Op: op}
		if op == api.MAlloc {
			w.Imm = 1
		}
		img := short(t, api.Word{Op: api.MTop}, w, api.Word{Op: api.MRet})
		img.Debug = known(t, 1)
		with := changed(img, func(x *api.Image) { x.Debug = known(t, 1, 1) })
		switch {
		case op == api.LAnd || op == api.LOr || op > api.Bang && op < api.MNum:
			want(t, img, 1, api.ErrForm)
		case slices.Contains(traps, op):
			want(t, img, 1, api.ErrNone)
			want(t, with, 0, api.OK)
		default:
			want(t, img, 0, api.OK)
			want(t, with, 0, api.ErrNone)
		}
	}
	for i, sites := range [][]int{{5, 7}, {3, 7}, {3, 5}} {
		want(t, changed(sound(t), func(x *api.Image) { x.Debug = known(t, 2, sites...) }), []int{3, 5, 7}[i], api.ErrNone)
	}
	want(t, changed(sound(t), func(x *api.Image) { x.Debug = known(t, 2) }), 3, api.ErrNone)
	for at := range 14 {
		if at == 3 || at == 5 || at == 7 {
			continue
		}
		sites := []int{3, 5, 7, at}
		slices.Sort(sites)
		want(t, changed(sound(t), func(x *api.Image) { x.Debug = known(t, 2, sites...) }), slices.Index(sites, at), api.ErrNone)
	}
	want(t, changed(sound(t), func(x *api.Image) { x.Debug = known(t, 2, 3, 5, 7, math.MaxInt32) }), 3, api.ErrNone)
}

// TestTheOrderInTheLastRule: marks that lack, then sites that are too many, then those that lack.
func TestTheOrderInTheLastRule(t *testing.T) {
	mark := func(x *api.Image) { x.Words[6].Imm = 2 }
	many := func(x *api.Image) { x.Debug = known(t, 2, 3, 5, 7, 8) }
	few := func(x *api.Image) { x.Debug = known(t, 2, 5, 7) }
	both := func(x *api.Image) { x.Debug = known(t, 2, 5, 6, 7) }
	want(t, changed(sound(t), mark), 6, api.ErrNone)
	want(t, changed(sound(t), mark, many), 6, api.ErrNone)
	want(t, changed(sound(t), mark, few), 6, api.ErrNone)
	want(t, changed(sound(t), many), 3, api.ErrNone)
	want(t, changed(sound(t), few), 3, api.ErrNone)
	want(t, changed(sound(t), both), 1, api.ErrNone)
}

// TestTwoRulesAtOnce: whichever place is first, the first rule is told.
func TestTwoRulesAtOnce(t *testing.T) {
	changes := []func(x *api.Image){
		func(x *api.Image) { x.Words = nil },
		func(x *api.Image) { x.Main = 2 },
		func(x *api.Image) { x.Entries[0].At = 99 },
		func(x *api.Image) { x.Entries[1].Slots = -1 },
		func(x *api.Image) { x.Words[1] = api.Word{} },
		func(x *api.Image) { x.Words[4].Imm = 77 },
		func(x *api.Image) { x.Words[9] = api.Word{Op: api.MTop} },
		func(x *api.Image) { x.Debug = x.Debug[1:] },
	}
	for i, change := range changes {
		alone := changed(sound(t), change)
		at, e := first(alone)
		if e == api.OK {
			t.Fatal("nothing is broken", i)
		}
		want(t, alone, at, e)
		for k := i + 1; k < len(changes); k++ {
			if i == 0 && k >= 4 && k <= 6 {
				continue // there is no instruction to be changed
			}
			want(t, changed(sound(t), change, changes[k]), at, e)
			want(t, changed(sound(t), changes[k], change), at, e)
		}
	}
	// Of two instructions the first one is told, whatever is wrong of it.
	want(t, changed(sound(t), func(x *api.Image) { x.Words[4].Imm = 77; x.Words[6] = api.Word{} }), 4, api.ErrRange)
	want(t, changed(sound(t), func(x *api.Image) { x.Words[4] = api.Word{}; x.Words[8].Imm = 77 }), 4, api.ErrForm)
}
