package reduce

import (
	"slices"

	"teasel/api"
	"teasel/code"
	"teasel/flow"
	"teasel/loops"
)

// counters are those of a function, each by its phi's value.
type counters struct {
	*loops.Fun
	numbers map[int]int64    // of each value that an IConst makes its number
	loop    map[int]counter  // of each counter how it counts
	counted map[int]multiple // of each counter, and of what stands for its products, how many times which counter that is
}

// counter tells how one counts: in a loop it begins with a value, and goes on by a step each time.
type counter struct {
	head  int
	entry int // which Arg of the phi comes from ahead of the loop
	first int
	step  int64
	next  int // the value behind the step
}

// multiple is so many times a counter.
type multiple struct {
	counter int
	times   int64
}

func (m multiple) by(n int64) multiple {
	return multiple{m.counter, m.times * n}
}

func newCounters(f *loops.Fun) *counters {
	c := &counters{Fun: f, numbers: map[int]int64{}, loop: map[int]counter{}, counted: map[int]multiple{}}
	makers := map[int]api.Inst{}
	for _, b := range f.Blocks {
		for _, x := range b.Insts {
			makers[x.Dst] = x
			if x.Op == api.IConst {
				c.numbers[x.Dst] = x.Imm
			}
		}
	}
	from, _ := flow.Into(code.Graph(f.Fun))
	for head, ahead := range f.Ahead {
		if ahead != -1 && len(from[head]) == 2 {
			c.find(head, slices.Index(from[head], ahead), makers)
		}
	}
	return c
}

// find finds the counters of a loop.
func (c *counters) find(head, entry int, makers map[int]api.Inst) {
	for _, x := range c.Blocks[head].Phis {
		next := x.Args[1-entry]
		step, is := c.step(x.Dst, makers[next])
		if is {
			c.loop[x.Dst] = counter{head: head, entry: entry, first: x.Args[entry], step: step, next: next}
			c.counted[x.Dst] = multiple{x.Dst, 1}
		}
	}
}

// step answers how far an instruction goes on from a value, if it does so by a number.
func (c *counters) step(v int, x api.Inst) (int64, bool) {
	if x.Op != api.Add && x.Op != api.Sub {
		return 0, false
	}
	if n, is := c.numbers[x.Args[1]]; is && x.Args[0] == v {
		if x.Op == api.Sub {
			n = -n
		}
		return n, true
	}
	n, is := c.numbers[x.Args[0]]
	return n, is && x.Op == api.Add && x.Args[1] == v
}

// product answers which Arg an instruction multiplies by a number, and by which one, if it does so.
func (c *counters) product(x api.Inst) (int, int64, bool) {
	if x.Op != api.Mul && x.Op != api.Shl {
		return 0, 0, false
	}
	if n, is := c.numbers[x.Args[1]]; is {
		if x.Op == api.Shl {
			// A shift goes as far as is left modulo 64.
			n = 1 << (uint64(n) % 64)
		}
		return 0, n, true
	}
	n, is := c.numbers[x.Args[0]]
	return 1, n, is && x.Op == api.Mul
}

// counts tells whether a value counts in a loop around a block.
func (c *counters) counts(v, block int) bool {
	m, is := c.counted[v]
	return is && c.In(c.loop[m.counter].head, block)
}
