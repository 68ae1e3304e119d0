package passes

import (
	"reflect"
	"testing"

	"teasel/api"
	"teasel/code"
	"teasel/samples"
)

// TestWhatIsHandedInIsNotChanged: right code and wrong code.
func TestWhatIsHandedInIsNotChanged(t *testing.T) {
	t.Parallel()
	for _, p := range passes() {
		for seed := range uint64(500) {
			for _, c := range []api.Code{samples.Code(seed, int(seed%2), int(seed%3)), samples.Plain(seed, 20), samples.Calls(seed, 5), samples.Loops(seed, 15)} {
				before := code.Copy(c)
				p.run(c)
				if !reflect.DeepEqual(c, before) {
					t.Fatal(p.name, "changes what is handed in", seed)
				}
			}
		}
	}
}

// wipe writes over all lists of code, their spare room too.
func wipe(c api.Code) {
	for _, f := range c.Funs[:cap(c.Funs)] {
		for _, b := range f.Blocks[:cap(f.Blocks)] {
			for _, l := range [][]api.Inst{b.Phis[:cap(b.Phis)], b.Insts[:cap(b.Insts)]} {
				for _, x := range l {
					clear(x.Args[:cap(x.Args)])
					clear(x.Dbg[:cap(x.Dbg)])
				}
				clear(l)
			}
		}
		clear(f.Blocks[:cap(f.Blocks)])
	}
	clear(c.Funs[:cap(c.Funs)])
	for _, s := range c.Stops[:cap(c.Stops)] {
		clear(s[:cap(s)])
	}
	clear(c.Stops[:cap(c.Stops)])
}

// TestAnswersAreNewMemory: whoever writes over what was handed in, or over an earlier answer, changes no other.
func TestAnswersAreNewMemory(t *testing.T) {
	t.Parallel()
	for _, p := range passes() {
		for seed := range uint64(300) {
			c := samples.Plain(seed, 12)
			switch seed % 3 {
			case 1:
				c = samples.Calls(seed, 6)
			case 2:
				c = samples.Loops(seed, 15)
			}
			first, again := p.mustRun(t, c), p.mustRun(t, c)
			want := code.Copy(first)
			wipe(again)
			if !reflect.DeepEqual(first, want) {
				t.Fatal(p.name, "gives out two answers that share memory", seed)
			}
			wipe(c)
			if !reflect.DeepEqual(first, want) {
				t.Fatal(p.name, "gives out what was handed in", seed)
			}
		}
	}
}

// lists adds to a map how often each list of numbers, or of what is known, stands in code, by where it begins; spare room too.
func lists(c api.Code) map[any]int {
	n := map[any]int{}
	for _, f := range c.Funs[:cap(c.Funs)] {
		for _, b := range f.Blocks[:cap(f.Blocks)] {
			for _, l := range [][]api.Inst{b.Phis[:cap(b.Phis)], b.Insts[:cap(b.Insts)]} {
				for _, x := range l {
					if cap(x.Args) > 0 {
						n[&x.Args[:1][0]]++
					}
					if cap(x.Dbg) > 0 {
						n[&x.Dbg[:1][0]]++
					}
				}
			}
		}
	}
	return n
}

// TestNoListStandsTwice: in the spare room of another one neither.
func TestNoListStandsTwice(t *testing.T) {
	t.Parallel()
	for _, p := range passes() {
		for seed := range uint64(300) {
			for _, c := range []api.Code{samples.Plain(seed, 12), samples.Calls(seed, 6), samples.Loops(seed, 15)} {
				for _, n := range lists(p.mustRun(t, c)) {
					if n > 1 {
						t.Fatal(p.name, "gives out two lists that share memory", seed)
					}
				}
			}
		}
	}
}

func TestTheSameAnswerEachTime(t *testing.T) {
	t.Parallel()
	for _, p := range passes() {
		for seed := range uint64(300) {
			c := samples.Plain(seed, 30)
			switch seed % 3 {
			case 1:
				c = samples.Calls(seed, 6)
			case 2:
				c = samples.Loops(seed, 15)
			}
			a := p.mustRun(t, c)
			p.mustRun(t, samples.Plain(seed+1, 9))
			if b := p.mustRun(t, c); !reflect.DeepEqual(a, b) {
				t.Fatal(p.name, "gives two answers to one question", seed)
			}
		}
	}
}
