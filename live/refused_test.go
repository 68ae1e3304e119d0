package live_test

import (
	"math"
	"testing"

	"teasel/api"
	"teasel/code"
	"teasel/live"
	. "teasel/parts"
	"teasel/samples"
)

// wantError holds what the calls answer where something is wrong, with nothing beside it; the error of Ends and Clashes first, then that of Ahead.
func wantError(t *testing.T, name string, c api.Code, fn, block, at int, want, wantAhead api.Errno) {
	t.Helper()
	for _, all := range []bool{false, true} {
		if begins, ends, e := live.Ends(c, fn, all); e != want || e != api.OK && (begins != nil || ends != nil) {
			t.Errorf("Ends of %s: %d beside %v, %v, want %d", name, e, begins, ends, want)
		}
		if l, e := live.Clashes(c, fn, all); e != want || e != api.OK && l != nil {
			t.Errorf("Clashes of %s: %d beside %v, want %d", name, e, l, want)
		}
		if l, e := live.Ahead(c, fn, all, block, at); e != wantAhead || e != api.OK && l != nil {
			t.Errorf("Ahead of %s: %d beside %v, want %d", name, e, l, wantAhead)
		}
	}
}

// TestCodeThatIsRefused: what isn't right, too long code, too, and what has variables; whatever else is wrong.
func TestCodeThatIsRefused(t *testing.T) {
	t.Parallel()
	for _, l := range []map[string]api.Code{Wrong(), WithVariables()} {
		for name, c := range l {
			for _, n := range []int{0, -1, 1, 9, math.MinInt, math.MaxInt} {
				wantError(t, name, c, 0, 0, n, api.ErrForm, api.ErrForm)
				wantError(t, name, c, 0, n, 0, api.ErrForm, api.ErrForm)
				wantError(t, name, c, n, 0, 0, api.ErrForm, api.ErrForm)
			}
		}
	}
}

// TestNumbersOfNothing: functions, blocks and instructions that there aren't.
func TestNumbersOfNothing(t *testing.T) {
	c := Program(Fun(0, Goes(1, Mark(), Number(0, 1)), Ends(Show(0))), Fun(0, Ends()))
	wantError(t, "what there is", c, 0, 0, 0, api.OK, api.OK)
	wantError(t, "the last instruction", c, 0, 0, 1, api.OK, api.OK)
	wantError(t, "the last block", c, 0, 1, 0, api.OK, api.OK)
	for _, n := range []int{-1, 2, 3, 64, math.MinInt, math.MaxInt} {
		wantError(t, "no function", c, n, 0, 0, api.ErrArg, api.ErrArg)
		wantError(t, "no block", c, 0, n, 0, api.OK, api.ErrArg)
		wantError(t, "no instruction", c, 0, 0, n, api.OK, api.ErrArg)
		wantError(t, "no instruction, too", c, 0, 1, n, api.OK, api.ErrArg)
		wantError(t, "nothing", c, n, n, n, api.ErrArg, api.ErrArg)
	}
	wantError(t, "a block's end", c, 0, 1, 1, api.OK, api.ErrArg)
	wantError(t, "a block without instructions", c, 1, 0, 0, api.OK, api.ErrArg)
	wantError(t, "a block of another function", c, 1, 1, 0, api.OK, api.ErrArg)
}

// TestFaultsByChance: of code that isn't plain nothing is told.
func TestFaultsByChance(t *testing.T) {
	t.Parallel()
	done := 0
	for seed := range uint64(3000) {
		c := samples.Code(seed, int(seed%3), int(seed/3%4))
		if code.Plain(c) {
			done++
			wantError(t, "plain code", c, len(c.Funs), 0, 0, api.ErrArg, api.ErrArg)
			wantError(t, "plain code", c, 0, len(c.Funs[0].Blocks), 0, api.OK, api.ErrArg)
		} else {
			wantError(t, "code by chance", c, int(seed%3)-1, int(seed/3%3)-1, int(seed/9%4)-1, api.ErrForm, api.ErrForm)
		}
	}
	if done < 500 || done > 2500 {
		t.Error(done)
	}
}

// TestInstructionsOfAnyKind: any Op, with any number of Args, and any Imm.
func TestInstructionsOfAnyKind(t *testing.T) {
	t.Parallel()
	for op := range 256 {
		for dst := -2; dst < 3; dst++ {
			for args := range 4 {
				for _, imm := range []int64{-1 << 63, -1, 0, 1, 300} {
					x := Inst(byte(op), dst, make([]int, args)...)
					x.Imm = imm
					c := Main(Ends(Number(0, 1), x))
					c.Funs[0].Blocks[0].End = byte(op % 7)
					want := api.ErrForm
					if code.Plain(c) {
						want = api.OK
					}
					wantError(t, "an instruction of any kind", c, 0, 0, 1, want, want)
				}
			}
		}
	}
}
