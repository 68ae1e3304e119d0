package ssa_test

import (
	"reflect"
	"testing"

	"teasel/api"
	"teasel/code"
	"teasel/samples"
	"teasel/ssa"
)

// TestWhatIsHandedInIsNotChanged: right code and wrong code.
func TestWhatIsHandedInIsNotChanged(t *testing.T) {
	for seed := range uint64(1000) {
		for _, c := range []api.Code{samples.Code(seed, 4, int(seed%2)), samples.Ways(seed, 20, 5)} {
			before := code.Copy(c)
			ssa.Build(c)
			if !reflect.DeepEqual(c, before) {
				t.Fatal("what is handed in was changed", seed)
			}
		}
	}
}

// wipe writes over all lists of code, their spare room too.
func wipe(c api.Code) {
	for _, f := range c.Funs[:cap(c.Funs)] {
		for _, b := range f.Blocks[:cap(f.Blocks)] {
			for _, l := range [][]api.Inst{b.Phis[:cap(b.Phis)], b.Insts[:cap(b.Insts)]} {
				for _, x := range l {
					clear(x.Args[:cap(x.Args)])
					clear(x.Dbg[:cap(x.Dbg)])
				}
				clear(l)
			}
		}
		clear(f.Blocks[:cap(f.Blocks)])
	}
	clear(c.Funs[:cap(c.Funs)])
	for _, s := range c.Stops[:cap(c.Stops)] {
		clear(s[:cap(s)])
	}
	clear(c.Stops[:cap(c.Stops)])
}

// TestAnswersAreNewMemory: whoever writes over what was handed in, or over an earlier answer, changes no other.
func TestAnswersAreNewMemory(t *testing.T) {
	for seed := range uint64(300) {
		c := samples.Ways(seed, 12, 4)
		first, _ := ssa.Build(c)
		again, _ := ssa.Build(c)
		want := code.Copy(first)
		wipe(again)
		if !reflect.DeepEqual(first, want) {
			t.Fatal("two answers share memory", seed)
		}
		wipe(c)
		if !reflect.DeepEqual(first, want) {
			t.Fatal("an answer hangs together with what was handed in", seed)
		}
	}
}

// lists adds to a map how often each list of numbers, or of what is known, stands in code, by where it begins; spare room too.
func lists(c api.Code) map[any]int {
	n := map[any]int{}
	for _, f := range c.Funs[:cap(c.Funs)] {
		for _, b := range f.Blocks[:cap(f.Blocks)] {
			for _, l := range [][]api.Inst{b.Phis[:cap(b.Phis)], b.Insts[:cap(b.Insts)]} {
				for _, x := range l {
					if cap(x.Args) > 0 {
						n[&x.Args[:1][0]]++
					}
					if cap(x.Dbg) > 0 {
						n[&x.Dbg[:1][0]]++
					}
				}
			}
		}
	}
	return n
}

// TestNoListStandsTwice: in the spare room of another one neither.
func TestNoListStandsTwice(t *testing.T) {
	for seed := range uint64(300) {
		d, _ := ssa.Build(samples.Ways(seed, 12, 4))
		for _, n := range lists(d) {
			if n > 1 {
				t.Fatal("two lists share memory", seed)
			}
		}
	}
}

func TestTheSameAnswerEachTime(t *testing.T) {
	for seed := range uint64(500) {
		c := samples.Ways(seed, 30, 6)
		a, e := ssa.Build(c)
		ssa.Build(samples.Ways(seed+1, 9, 9))
		b, g := ssa.Build(c)
		if !reflect.DeepEqual(a, b) || e != g {
			t.Fatal("two answers to one question", seed)
		}
	}
}

// TestCodeOfAnyKind: what is wrong is refused, with code.Check's error.
func TestCodeOfAnyKind(t *testing.T) {
	for op := range 256 {
		for dst := -2; dst < 3; dst++ {
			for args := range 4 {
				for _, imm := range []int64{-1 << 63, -1, 0, 1, 5, 300, 1<<63 - 1} {
					x := inst(byte(op), dst, make([]int, args)...)
					x.Imm = imm
					c := main(ends(number(0, 1), x))
					c.Funs[0].Blocks[0].End = byte(op % 7)
					if e := code.Check(c); e != api.OK {
						wantError(t, c, e)
					} else {
						mustBuild(t, c)
					}
				}
			}
		}
	}
}
