package loops_test

import (
	"reflect"
	"slices"
	"testing"

	"teasel/alike"
	"teasel/api"
	"teasel/code"
	"teasel/flow"
	"teasel/loops"
	. "teasel/parts"
	"teasel/samples"
)

// inLoops answers of a function's loops, by their heads, which blocks stand in them.
func inLoops(f api.Fun) map[int][]int {
	l, _ := flow.Loops(code.Graph(f))
	in := map[int][]int{}
	for _, x := range l {
		in[x.Head] = x.Nodes
	}
	return in
}

// wantLoops holds what is told of a function against its loops, as flow tells them.
func wantLoops(t *testing.T, l *loops.Fun) {
	t.Helper()
	in := inLoops(l.Fun)
	from, _ := flow.Into(code.Graph(l.Fun))
	for head, ahead := range l.Ahead {
		if (ahead != -1) != (in[head] != nil) {
			t.Fatalf("the block %d is entered from %d: %+v", head, ahead, l.Blocks)
		}
		if ahead == -1 {
			continue
		}
		if !slices.Contains(from[head], ahead) || slices.Contains(in[head], ahead) {
			t.Fatalf("the block %d isn't entered from %d: %+v", head, ahead, l.Blocks)
		}
		for block := range l.Blocks {
			if l.In(head, block) != slices.Contains(in[head], block) {
				t.Fatalf("is %d in the loop of %d? %+v", block, head, l.Blocks)
			}
		}
	}
	for block := range l.Blocks {
		for other := range l.Blocks {
			wantOutermost(t, l, in, block, other)
		}
	}
}

// wantOutermost holds which is the outermost loop around a block in which another one doesn't stand.
func wantOutermost(t *testing.T, l *loops.Fun, in map[int][]int, block, other int) {
	t.Helper()
	want := -1
	for head, nodes := range in {
		if slices.Contains(nodes, block) && !slices.Contains(nodes, other) && (want == -1 || len(nodes) > len(in[want])) {
			want = head
		}
	}
	if got := l.Outermost(block, func(head int) bool { return !l.In(head, other) }); got != want {
		t.Fatalf("the outermost loop around %d without %d is that of %d, not %d: %+v", block, other, got, want, l.Blocks)
	}
}

// TestByChance: code of all kinds.
func TestByChance(t *testing.T) {
	found, deep := 0, 0
	for seed := range uint64(800) {
		c := samples.Loops(seed, 1+int(seed%40))
		switch seed % 4 {
		case 0:
			c = samples.Code(seed, 0, 0)
		case 1:
			c = samples.Plain(seed, 40)
		}
		for _, f := range c.Funs {
			l := loops.New(f)
			if s := alike.Entered(l.Fun); s != "" {
				t.Fatal(s)
			}
			wantLoops(t, l)
			if l.Size != code.Size(api.Code{Funs: []api.Fun{f}})+len(f.Blocks) {
				t.Fatal(l.Size)
			}
			for _, nodes := range inLoops(l.Fun) {
				found++
				if len(nodes) > 5 {
					deep++
				}
			}
		}
	}
	if found < 2500 || deep < 250 {
		t.Error(found, deep)
	}
}

// nest is so many loops in one another, with a block in each and one behind all.
func nest(n int) api.Fun {
	f := Fun(0, Goes(1, Read(0)))
	for i := range n {
		f.Blocks = append(f.Blocks, Goes(i+2))
	}
	f.Blocks = append(f.Blocks, Goes(n+2))
	for i := range n {
		f.Blocks = append(f.Blocks, Branch(0, n-i, n+3+i))
	}
	f.Blocks = append(f.Blocks, Ends())
	return f
}

func TestNests(t *testing.T) {
	for n := 1; n < 40; n++ {
		l := loops.New(nest(n))
		wantLoops(t, l)
		for head := 1; head <= n; head++ {
			if l.Ahead[head] != head-1 {
				t.Errorf("%d is entered from %d", head, l.Ahead[head])
			}
			if got := l.Outermost(n+1, func(h int) bool { return h >= head }); got != head {
				t.Errorf("%d, not %d", got, head)
			}
		}
	}
}

// TestOutermostIsFoundSoon: of very many loops in one another.
func TestOutermostIsFoundSoon(t *testing.T) {
	const n = 29000
	l := loops.New(nest(n))
	for head := 1; head <= n; head += 777 {
		asked := 0
		if got := l.Outermost(n+1, func(h int) bool { asked++; return h >= head }); got != head || asked > 120 {
			t.Errorf("%d, not %d: asked %d times", got, head, asked)
		}
	}
}

// TestValues: new ones have the least numbers that are free; those of new phis, too.
func TestValues(t *testing.T) {
	f := Fun(1, Branch(3, 1, 2, Param(3, 0), Number(0, 1)), Goes(3), Goes(3), Behind(Branch(2, 3, 4, Read(2)), Phi(6, 0, 3, 6)), Ends())
	f.Vals = 8
	l := loops.New(f)
	if !reflect.DeepEqual(l.Blocks[5].Phis, []api.Inst{Phi(1, 0, 3)}) {
		t.Errorf("%+v", l.Blocks[5])
	}
	var got []int
	for range 5 {
		got = append(got, l.Value())
	}
	if !slices.Equal(got, []int{4, 5, 7, 8, 9}) || l.Vals != 10 {
		t.Error(got, l.Vals)
	}
}

// TestEach: each function is changed, in order; beside an error there is nothing.
func TestEach(t *testing.T) {
	c := Program(Fun(0, Ends(Read(0))), nest(2), Fun(2, Ends()))
	c.Main = 0
	blocks := []int{}
	d, e := loops.Each(c, func(f *loops.Fun) {
		blocks = append(blocks, len(f.Blocks))
		f.Blocks[0].Insts = append(f.Blocks[0].Insts, Number(f.Value(), 5))
	})
	if e != api.OK || !code.Plain(d) || !slices.Equal(blocks, []int{1, 7, 1}) || Count(d, api.IConst) != 3 || d.Funs[2].Params != 2 || !reflect.DeepEqual(d.Stops, c.Stops) {
		t.Errorf("%d, %v: %+v", e, blocks, d)
	}
	notPlain := Main(Ends(Inst(api.IGet, 0)))
	notPlain.Funs[0].Vars = 1
	for _, x := range []struct {
		c     api.Code
		insts int
		vals  int
		want  api.Errno
	}{
		{c, api.MaxCode - 2, 9, api.OK}, {c, api.MaxCode - 1, 9, api.ErrLimit}, {c, 0, api.MaxVals, api.OK}, {c, 0, api.MaxVals + 1, api.ErrLimit}, {api.Code{}, 0, 0, api.ErrForm}, {notPlain, 0, 0, api.ErrForm},
	} {
		d, e := loops.Each(x.c, func(f *loops.Fun) {
			if f.Params == 2 {
				f.Blocks[0].Insts, f.Vals = make([]api.Inst, x.insts), x.vals
			}
		})
		if e != x.want || e != api.OK && !reflect.DeepEqual(d, api.Code{}) {
			t.Errorf("%d, want %d", e, x.want)
		}
	}
}
