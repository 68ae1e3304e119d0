package samples

import "teasel/api"

// Code answers code between, whose functions have at most so many variables. With 0 faults it is right, and plain if it has no variables; else about that many of its numbers are others. Which loops it has comes about by chance, so that many a run of it doesn't end.
func Code(seed uint64, vars, faults int) api.Code {
	c := coder{dice: dice{state: seed}, vars: vars, blocks: 8}
	c.write()
	for range faults {
		c.spoil()
	}
	return c.code
}

// Ways answers right code whose functions have at most so many blocks and variables: the variables are set, got and known at marks more often than anything else is done, and at each branch the way is chosen by what is read, so that an input of noughts and ones leads through it.
func Ways(seed uint64, blocks, vars int) api.Code {
	c := coder{dice: dice{state: seed}, vars: vars, blocks: blocks, wanders: true}
	c.write()
	return c.code
}

// Plain answers right code without variables, whose functions have at most so many blocks: it does few things, with few numbers, so that much of it is known ahead, or done twice.
func Plain(seed uint64, blocks int) api.Code {
	c := coder{dice: dice{state: seed}, blocks: blocks, few: true}
	c.write()
	return c.code
}

// Calls answers right code without variables, whose functions have at most so many blocks: some of them are small and call none, and these are called often.
func Calls(seed uint64, blocks int) api.Code {
	c := coder{dice: dice{state: seed}, blocks: blocks, calls: true}
	c.write()
	return c.code
}

// Loops answers right code without variables, whose functions have at most so many blocks: loops in loops, with phis that count in them, and products of these.
func Loops(seed uint64, blocks int) api.Code {
	c := coder{dice: dice{state: seed}, blocks: blocks, turns: true}
	c.write()
	return c.code
}

// Bits answers so many noughts and ones, an input for code that branches by what it reads.
func Bits(seed uint64, n int) []int64 {
	d := dice{state: seed}
	l := make([]int64, n)
	for i := range l {
		l[i] = int64(d.below(2))
	}
	return l
}

func (c *coder) write() {
	c.code.Funs = make([]api.Fun, 1+c.below(4))
	c.code.Main = c.below(len(c.code.Funs))
	if c.calls {
		c.small = len(c.code.Funs)
		c.code.Funs = append(c.code.Funs, make([]api.Fun, 1+c.below(3))...)
	}
	for range 1 + c.below(6) {
		c.code.Stops = append(c.code.Stops, c.stop())
	}
	for i := range c.code.Funs {
		if i != c.code.Main {
			c.code.Funs[i].Params = c.below(4)
		}
	}
	for i := range c.code.Funs {
		c.leaf = c.calls && i >= c.small
		c.function(&c.code.Funs[i])
	}
}

// coder writes code, that wanders if it is made by Ways, does few things if it is made by Plain, calls small ones, from the function number small on, if it is made by Calls, and turns round if it is made by Loops; in fun is the function that is being written (a leaf calls none), in names the numbers of its values that are free, in made those that are made, in above which blocks dominate which.
type coder struct {
	dice
	vars    int
	blocks  int
	wanders bool
	few     bool
	calls   bool
	turns   bool
	small   int
	leaf    bool
	code    api.Code
	fun     *api.Fun
	names   []int
	made    []making
	above   [][]bool
}

// making is of a value where it is made (a phi at -1), and by what.
type making struct {
	value int
	op    byte
	block int
	at    int
}

func (c *coder) stop() []api.Spot {
	var l []api.Spot
	for range 1 + c.below(3) {
		l = append(l, api.Spot{Fn: c.below(len(c.code.Funs)), Stmt: 1 + c.below(20)})
	}
	return l
}

func (c *coder) function(f *api.Fun) {
	c.fun, c.made = f, nil
	f.Vars = c.below(c.vars + 1)
	most := c.blocks
	if c.leaf {
		most = min(most, 4)
	}
	f.Blocks = make([]api.Block, 1+c.below(most))
	f.Vals = 10*len(f.Blocks) + c.below(3)
	if c.turns {
		f.Vals += 6 * len(f.Blocks)
	}
	c.names = c.shuffled(f.Vals)
	c.ways()
	c.dominators()
	for i := range f.Blocks {
		c.block(i)
	}
	c.phiArgs()
}

// shuffled answers the numbers from 0 on in some order.
func (c *coder) shuffled(n int) []int {
	l := make([]int, n)
	for i := range l {
		k := c.below(i + 1)
		l[i] = l[k]
		l[k] = i
	}
	return l
}

// ways lets each block go on to at most two, none to the first, so that all are reached: each from one that stands ahead of it.
func (c *coder) ways() {
	blocks := c.fun.Blocks
	var free []int // the blocks that have a way left, as often as they have
	before := make([]int, len(blocks))
	for i := range blocks {
		if i > 0 {
			k := c.below(len(free))
			before[i] = free[k]
			c.goOn(&blocks[free[k]], i)
			free = append(free[:k], free[k+1:]...)
		}
		free = append(free, i, i)
	}
	for i := range blocks {
		b := &blocks[i]
		if to := c.onward(i, before); b.End != api.Branch && to < len(blocks) && c.once(2) && (b.End != api.GoTo || b.To != to) {
			c.goOn(b, to)
		}
		switch {
		case b.End == 0:
			b.End = api.RetVal + byte(c.below(2))
		case b.End == api.Branch && c.once(2):
			b.To, b.Else = b.Else, b.To
		}
	}
}

// onward answers a block to which one may go on, if there is such a block; where code turns round, mostly one from which there was a way to it.
func (c *coder) onward(i int, before []int) int {
	if !c.turns || c.once(4) {
		return 1 + c.below(len(c.fun.Blocks))
	}
	for range c.below(4) {
		i = before[i]
	}
	return max(i, 1)
}

func (c *coder) goOn(b *api.Block, to int) {
	if b.End == 0 {
		b.End, b.To = api.GoTo, to
		return
	}
	b.End, b.Else = api.Branch, to
}

// dominators finds which blocks each one can't be reached without.
func (c *coder) dominators() {
	n := len(c.fun.Blocks)
	c.above = make([][]bool, n)
	for without := range n {
		c.above[without] = make([]bool, n)
		reached := make([]bool, n)
		c.reach(0, without, reached)
		for i, is := range reached {
			c.above[without][i] = !is
		}
	}
}

func (c *coder) reach(at, without int, reached []bool) {
	if at == without || reached[at] {
		return
	}
	reached[at] = true
	b := c.fun.Blocks[at]
	if b.End == api.GoTo || b.End == api.Branch {
		c.reach(b.To, without, reached)
	}
	if b.End == api.Branch {
		c.reach(b.Else, without, reached)
	}
}

// comesFrom answers the blocks that go on to one, rising.
func (c *coder) comesFrom(block int) []int {
	var l []int
	for i, b := range c.fun.Blocks {
		if (b.End == api.GoTo || b.End == api.Branch) && b.To == block || b.End == api.Branch && b.Else == block {
			l = append(l, i)
		}
	}
	return l
}

// value answers one that is made ahead of a place, if there is one by such an Op, where one is asked for.
func (c *coder) value(block, at int, op byte) int {
	var all, some []int
	for _, m := range c.made {
		if m.block == block && m.at < at || m.block != block && c.above[m.block][block] {
			all = append(all, m.value)
			if m.op == op {
				some = append(some, m.value)
			}
		}
	}
	if len(some) > 0 && !c.once(40) {
		return some[c.below(len(some))]
	}
	return all[c.below(len(all))]
}

// has tells whether a value is made by such an Op ahead of a place.
func (c *coder) has(block int, op byte) bool {
	for _, m := range c.made {
		if m.op == op && c.above[m.block][block] {
			return true
		}
	}
	return false
}

func (c *coder) make(op byte, block, at int) int {
	v := c.names[0]
	c.names = c.names[1:]
	c.made = append(c.made, making{v, op, block, at})
	return v
}

func (c *coder) phiArgs() {
	for i := range c.fun.Blocks {
		from := c.comesFrom(i)
		for k := range c.fun.Blocks[i].Phis {
			for _, p := range from {
				x := &c.fun.Blocks[i].Phis[k]
				x.Args = append(x.Args, c.phiArg(x.Dst, p))
			}
		}
	}
}

// phiArg answers a value for a phi that comes from a block; where code turns round, mostly one that is made from it.
func (c *coder) phiArg(phi, from int) int {
	end := len(c.fun.Blocks[from].Insts)
	var kind byte
	switch {
	case c.few:
		kind = byte(pickOf(&c.dice, 0, api.IConst, api.IPhi, api.IPhi))
	case c.turns:
		for _, m := range c.made {
			if m.op != api.Add && m.op != api.Sub || !c.above[m.block][from] || c.once(8) {
				continue
			}
			if x := c.fun.Blocks[m.block].Insts[m.at]; x.Args[0] == phi || x.Args[1] == phi {
				return m.value
			}
		}
		kind = byte(pickOf(&c.dice, 0, api.IConst, api.IConst, api.IPhi, api.IRead))
	}
	return c.value(from, end, kind)
}
