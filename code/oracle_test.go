package code_test

import (
	"testing"

	"teasel/api"
	"teasel/code"
	"teasel/samples"
)

// The oracle asks no graph who dominates whom: it follows all ways round and round, with what is surely made on them.

// set are the values that are surely made; nil: all, as no way was followed yet.
type set map[int]bool

func (s set) has(v int) bool {
	return s == nil || s[v]
}

func (s set) with(v int) set {
	if s == nil {
		return nil
	}
	l := set{v: true}
	for x := range s {
		l[x] = true
	}
	return l
}

func (s set) and(other set) set {
	if s == nil {
		return other
	}
	l := set{}
	for x := range s {
		if other.has(x) {
			l[x] = true
		}
	}
	return l
}

// oracle holds code against the rules, and notes in wrong whether one doesn't hold.
type oracle struct {
	c     api.Code
	f     api.Fun
	wrong bool
}

func (o *oracle) must(is bool) {
	o.wrong = o.wrong || !is
}

func isWrong(c api.Code) bool {
	o := oracle{c: c}
	o.must(c.Main >= 0 && c.Main < len(c.Funs))
	if !o.wrong {
		o.must(c.Funs[c.Main].Params == 0)
	}
	for _, s := range c.Stops {
		o.must(len(s) > 0)
	}
	for _, f := range c.Funs {
		o.f = f
		o.must(f.Params >= 0 && f.Params <= 6 && f.Vars >= 0 && f.Vars <= 255 && f.Vals >= 0 && f.Vals <= 60000)
		o.must(len(f.Blocks) > 0 && len(f.Blocks) <= 60000)
		if !o.wrong {
			o.blocks()
		}
		if !o.wrong {
			o.makings()
		}
		if !o.wrong {
			o.ways()
		}
	}
	return o.wrong
}

// next answers where a block goes on; it may be anywhere.
func (o *oracle) next(b api.Block) []int {
	switch b.End {
	case api.GoTo:
		return []int{b.To}
	case api.Branch:
		return []int{b.To, b.Else}
	}
	return nil
}

func (o *oracle) from(block int) []int {
	var l []int
	for i, b := range o.f.Blocks {
		for k, to := range o.next(b) {
			if to == block && (k == 0 || b.To != block) {
				l = append(l, i)
			}
		}
	}
	return l
}

func (o *oracle) blocks() {
	seen := make([]bool, len(o.f.Blocks))
	var visit func(i int)
	visit = func(i int) {
		if seen[i] {
			return
		}
		seen[i] = true
		for _, to := range o.next(o.f.Blocks[i]) {
			if to > 0 && to < len(seen) {
				visit(to)
			}
		}
	}
	visit(0)
	for i, b := range o.f.Blocks {
		o.must(seen[i] && b.End >= 1 && b.End <= 4)
		o.must(b.End != api.Branch || b.To != b.Else)
		for _, to := range o.next(b) {
			o.must(to >= 1 && to < len(o.f.Blocks))
		}
	}
	o.must(len(o.f.Blocks[0].Phis) == 0)
}

// makings holds all but the uses of values against the rules.
func (o *oracle) makings() {
	made := map[int]int{}
	for i, b := range o.f.Blocks {
		for _, x := range b.Phis {
			o.must(x.Op == api.IPhi && len(x.Args) == len(o.from(i)))
			made[x.Dst]++
			o.must(x.Dst >= 0)
		}
		for _, x := range b.Insts {
			o.inst(x, i)
			made[x.Dst]++
		}
	}
	delete(made, -1)
	for v, times := range made {
		o.must(times == 1 && v >= 0 && v < o.f.Vals)
	}
}

func (o *oracle) inst(x api.Inst, block int) {
	r, is := ops()[x.Op]
	o.must(is && x.Op != api.IPhi)
	n := int(x.Imm)
	switch x.Op {
	case api.IParam:
		o.must(block == 0 && n >= 0 && n < o.f.Params)
	case api.IAlloc:
		o.must(n > 0 && n < 257)
	case api.IGet, api.ISet:
		o.must(n >= 0 && n < o.f.Vars)
	case api.ICall:
		o.must(n >= 0 && n < len(o.c.Funs))
		if !o.wrong {
			o.must(len(x.Args) == o.c.Funs[n].Params)
		}
	}
	o.must(x.Op == api.ICall || len(x.Args) == r.args)
	o.must(x.Op == api.ICall || r.makes == (x.Dst != -1))
	if x.Op == api.IMark || x.Op == api.ICall || r.traps {
		o.must(x.Site >= 0 && x.Site < len(o.c.Stops))
	}
	if x.Op != api.IMark && x.Op != api.ICall || o.wrong {
		return
	}
	for i, d := range x.Dbg {
		o.must(d.Depth >= 0 && d.Depth < len(o.c.Stops[x.Site]) && d.Kind >= 1 && d.Kind <= 3)
		o.must(d.Kind != api.DVar || d.Arg >= 0 && d.Arg < o.f.Vars)
		for _, e := range x.Dbg[:i] {
			o.must(d.Depth != e.Depth || d.Var != e.Var)
		}
	}
}

// ways goes round until what is surely made at the end of each block doesn't change any more.
func (o *oracle) ways() {
	ends := make([]set, len(o.f.Blocks))
	for again := true; again; {
		again = false
		for i := range o.f.Blocks {
			s := o.through(i, ends, func(bool) {})
			if ends[i] == nil || len(s) != len(ends[i]) {
				ends[i], again = s, true
			}
		}
	}
	for i := range o.f.Blocks {
		o.through(i, ends, o.must)
	}
}

// through answers what is surely made at a block's end, and tells must of each use whether it is.
func (o *oracle) through(i int, ends []set, must func(is bool)) set {
	b := o.f.Blocks[i]
	s := set{}
	if i > 0 {
		s = nil
		for _, p := range o.from(i) {
			if ends[p] != nil {
				s = s.and(ends[p])
			}
		}
	}
	for _, x := range b.Phis {
		for k, p := range o.from(i) {
			must(ends[p].has(x.Args[k]))
		}
		s = s.with(x.Dst)
	}
	for _, x := range b.Insts {
		for _, v := range x.Args {
			must(s.has(v))
		}
		for _, d := range x.Dbg {
			if d.Kind == api.DVal && (x.Op == api.IMark || x.Op == api.ICall) {
				must(s.has(d.Arg))
			}
		}
		if x.Dst != -1 {
			s = s.with(x.Dst)
		}
	}
	if b.End == api.Branch || b.End == api.RetVal {
		must(s.has(b.Arg))
	}
	return s
}

func wantOracle(t *testing.T, c api.Code) api.Errno {
	t.Helper()
	want := api.OK
	if isWrong(c) {
		want = api.ErrForm
	}
	if e := code.Check(c); e != want {
		t.Fatalf("%d, want %d, of %+v", e, want, c)
	}
	return want
}

func TestCodeByChance(t *testing.T) {
	right := 0
	for seed := range uint64(6000) {
		if wantOracle(t, samples.Code(seed, int(seed%4), int(seed%3))) == api.OK {
			right++
		}
	}
	if right < 2250 || right > 5500 {
		t.Error("so many of them are right:", right)
	}
}

func FuzzCheck(f *testing.F) {
	f.Add(uint64(1), 2, 3)
	f.Fuzz(func(t *testing.T, seed uint64, vars, faults int) {
		wantOracle(t, samples.Code(seed, max(0, vars%9), faults%9))
	})
}

// TestTheSameAnswerEachTime: of the same code, whatever was asked between.
func TestTheSameAnswerEachTime(t *testing.T) {
	for seed := range uint64(300) {
		c := samples.Code(seed, 2, 2)
		e, plain := code.Check(c), code.Plain(c)
		code.Check(samples.Code(seed+1, 2, 3))
		if code.Check(c) != e || code.Plain(c) != plain || plain && e != api.OK {
			t.Fatal("two answers to one code", seed)
		}
	}
}
