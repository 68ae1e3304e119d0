package alloc_test

import (
	"math"
	"reflect"
	"testing"

	"teasel/alloc"
	"teasel/api"
	"teasel/code"
	. "teasel/parts"
	"teasel/samples"
)

// errors are what the calls answer.
type errors struct {
	split    api.Errno
	places   api.Errno
	recovers api.Errno
}

// wantErrors holds what the calls answer where something is wrong, with nothing beside it.
func wantErrors(t *testing.T, name string, c api.Code, fn, block, at int, want errors) {
	t.Helper()
	for _, all := range []bool{false, true} {
		if d, e := alloc.Split(c); e != want.split || e != api.OK && !reflect.DeepEqual(d, api.Code{}) {
			t.Errorf("Split of %s: %d beside %s, want %d", name, e, told(d), want.split)
		}
		if l, e := alloc.Places(c, fn, all); e != want.places || e != api.OK && l != nil {
			t.Errorf("Places of %s: %d beside %v, want %d", name, e, l, want.places)
		}
		if l, e := alloc.Recovers(c, fn, all, block, at); e != want.recovers || e != api.OK && l != nil {
			t.Errorf("Recovers of %s: %d beside %v, want %d", name, e, l, want.recovers)
		}
	}
}

func refused() errors {
	return errors{api.ErrForm, api.ErrForm, api.ErrForm}
}

// oneWay is a branch both of whose ways go to one block, that has phis.
func oneWay() api.Code {
	return Main(Branch(0, 1, 1, Read(0)), Behind(Ends(), Phi(1, 0)))
}

// TestCodeThatIsRefused: what isn't right, too long code, too, and what has variables; whatever else is wrong.
func TestCodeThatIsRefused(t *testing.T) {
	t.Parallel()
	for _, l := range []map[string]api.Code{Wrong(), WithVariables(), {"both ways to one block": oneWay()}} {
		for name, c := range l {
			for _, n := range []int{0, -1, 1, 9, math.MinInt, math.MaxInt} {
				wantErrors(t, name, c, 0, 0, n, refused())
				wantErrors(t, name, c, 0, n, 0, refused())
				wantErrors(t, name, c, n, 0, 0, refused())
			}
		}
	}
}

// TestNumbersOfNothing: functions, blocks and instructions that there aren't.
func TestNumbersOfNothing(t *testing.T) {
	c := Program(Fun(0, Goes(1, Mark(), Mark()), Ends(Mark())), Fun(0, Ends()))
	wantErrors(t, "what there is", c, 0, 0, 0, errors{})
	wantErrors(t, "the last instruction", c, 0, 0, 1, errors{})
	wantErrors(t, "the last block", c, 0, 1, 0, errors{})
	for _, n := range []int{-1, 2, 3, 64, math.MinInt, math.MaxInt} {
		wantErrors(t, "no function", c, n, 0, 0, errors{0, api.ErrArg, api.ErrArg})
		wantErrors(t, "no block", c, 0, n, 0, errors{0, 0, api.ErrArg})
		wantErrors(t, "no instruction", c, 0, 0, n, errors{0, 0, api.ErrArg})
		wantErrors(t, "no instruction, too", c, 0, 1, n, errors{0, 0, api.ErrArg})
		wantErrors(t, "nothing", c, n, n, n, errors{0, api.ErrArg, api.ErrArg})
	}
	wantErrors(t, "a block's end", c, 0, 1, 1, errors{0, 0, api.ErrArg})
	wantErrors(t, "a block without instructions", c, 1, 0, 0, errors{0, 0, api.ErrArg})
	wantErrors(t, "a block of another function", c, 1, 1, 0, errors{0, 0, api.ErrArg})
}

// TestInstructionsOfAnyKind: any Op, with any number of Args, and any Imm: of marks and calls alone something can be told.
func TestInstructionsOfAnyKind(t *testing.T) {
	t.Parallel()
	for op := range 256 {
		for dst := -2; dst < 3; dst++ {
			for args := range 4 {
				for _, imm := range []int64{-1 << 63, -1, 0, 1, 300} {
					x := Inst(byte(op), dst, make([]int, args)...)
					x.Imm = imm
					c := Main(Ends(Number(0, 1), x))
					c.Funs[0].Blocks[0].End = byte(op % 7)
					want := refused()
					if code.Plain(c) {
						want = errors{}
						if op != api.IMark && op != api.ICall {
							want.recovers = api.ErrArg
						}
					}
					wantErrors(t, "an instruction of any kind", c, 0, 0, 1, want)
				}
			}
		}
	}
}

// TestFaultsByChance: of code that isn't plain nothing is told.
func TestFaultsByChance(t *testing.T) {
	t.Parallel()
	done := 0
	for seed := range uint64(3000) {
		c := samples.Code(seed, int(seed%3), int(seed/3%4))
		if code.Plain(c) {
			done++
			wantErrors(t, "plain code", c, len(c.Funs), 0, 0, errors{0, api.ErrArg, api.ErrArg})
			wantErrors(t, "plain code", c, 0, len(c.Funs[0].Blocks), 0, errors{0, 0, api.ErrArg})
		} else {
			wantErrors(t, "code by chance", c, int(seed%3)-1, int(seed/3%3)-1, int(seed/9%4)-1, refused())
		}
	}
	if done < 500 || done > 2500 {
		t.Error(done)
	}
}
