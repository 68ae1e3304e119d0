package reduce_test

import (
	"reflect"
	"testing"

	"teasel/api"
	"teasel/code"
	. "teasel/parts"
	"teasel/reduce"
)

// mustFit answers what long code becomes; its form is held elsewhere, as that takes long.
func mustFit(t *testing.T, c api.Code) api.Code {
	t.Helper()
	d, e := reduce.Run(c)
	if e != api.OK || !code.Plain(d) {
		t.Fatal(e, code.Check(d), code.Check(c))
	}
	return d
}

func wantErrLimit(t *testing.T, c api.Code) {
	t.Helper()
	if !code.Plain(c) {
		t.Fatal("the code isn't plain")
	}
	if d, e := reduce.Run(c); e != api.ErrLimit || !reflect.DeepEqual(d, api.Code{}) {
		t.Errorf("%d beside %s", e, told(d))
	}
}

// size answers how many instructions, phis and blocks code has.
func size(c api.Code) int {
	n := code.Size(c)
	for _, f := range c.Funs {
		n += len(f.Blocks)
	}
	return n
}

// nest is so many loops in one another, each with a counter that begins with that of the loop around it; in the innermost one, where a run comes only if a one is read, are so many products, each by the next number, or, in a row, of the one ahead. A run leaves each loop as soon as a nought is read.
func nest(loops, count int, row bool) api.Code {
	const read, one, first = 0, 1, 2
	last := first + loops
	blocks := []api.Block{Goes(1, Read(read), Read(first), Number(one, 3))}
	for i := range loops {
		v := first + i
		head := Behind(Goes(i+2), Phi(v+1, v, 1+last+i))
		blocks = append(blocks, head)
	}
	next := 2 + 2*loops + first
	work := Goes(loops + 2)
	of := last
	for i := range count {
		n := next
		if !row || i == 0 {
			work.Insts = append(work.Insts, Number(n, int64(5+2*i)))
			next++
		} else {
			n = 2 + 2*loops + first
		}
		work.Insts = append(work.Insts, Inst(api.Mul, next, of, n))
		if row {
			of = next
		}
		next++
	}
	blocks[loops] = Behind(Branch(next, loops+1, loops+2, Read(next)), blocks[loops].Phis...)
	blocks = append(blocks, work)
	for i := range loops {
		v := last - i
		blocks = append(blocks, Branch(read, v-first, loops+3+i, Inst(api.Add, v+loops, v, one)))
	}
	c := Main(append(blocks, Ends())...)
	c.Funs[0].Vals = next + 1
	return c
}

// padded lets code have so many instructions, phis and blocks.
func padded(c api.Code, n int) api.Code {
	for n -= size(c); n > 0; n-- {
		b := &c.Funs[0].Blocks[len(c.Funs[0].Blocks)-1]
		b.Insts = append(b.Insts, Show(0))
	}
	return c
}

// TestSmallCodeIsNotRefused: of 2,000 instructions, phis and blocks, with 2,000 values, where products times blocks come to 10,000.
func TestSmallCodeIsNotRefused(t *testing.T) {
	t.Parallel()
	for _, x := range []struct{ loops, products int }{{3, 975}, {5, 769}, {10, 434}, {48, 100}, {98, 50}, {240, 20}, {331, 15}} {
		for _, row := range []bool{false, true} {
			c := nest(x.loops, x.products, row)
			c = padded(c, 2000)
			c.Funs[0].Vals = 2000
			if n := len(c.Funs[0].Blocks) * x.products; size(c) != 2000 || n > 10000 || n < 8500 {
				t.Fatal(size(c), n)
			}
			d := mustRun(t, c)
			if n := Count(d, api.ICopy); n > 0 {
				t.Error(x.loops, x.products, n, "copies")
			}
			for _, input := range [][]int64{{0, 5, 0}, {0, 5, 1}, {1, 5, 1, 0, 1, 1, 0}} {
				holdRuns(t, c, d, input, 400)
			}
		}
	}
}

// TestTooLongCode: with just as many instructions and phis as there may be it is OK, with one more it isn't, in one function or in several.
func TestTooLongCode(t *testing.T) {
	t.Parallel()
	for _, x := range []struct{ loops, products int }{{3, 1000}, {100, 50}, {1000, 2}} {
		// In a great function nothing is refused for want of room.
		c := padded(nest(x.loops, x.products, false), 20000)
		more := code.Size(mustFit(t, c)) - code.Size(c)
		most := api.MaxCode - more + len(c.Funs[0].Blocks)
		c = padded(c, most)
		if k := code.Size(mustFit(t, c)); k != api.MaxCode {
			t.Error(k)
		}
		wantErrLimit(t, padded(c, most+1))
		c = padded(nest(x.loops, x.products, false), most-7)
		d := Program(Fun(0, Ends(Read(0), Call(-1, 1), Call(-1, 2))), c.Funs[0], Fun(0, Ends(Read(0), Read(1), Read(2), Read(3))))
		if k := code.Size(mustFit(t, d)); k != api.MaxCode {
			t.Error(k)
		}
		d.Funs[2] = Fun(0, Ends(Read(0), Read(1), Read(2), Read(3), Read(4)))
		wantErrLimit(t, d)
	}
	for _, x := range []struct{ loops, products int }{{200, 300}, {9000, 5000}, {25, 18000}, {12000, 1}} {
		wantErrLimit(t, nest(x.loops, x.products, false))
	}
}

// twice is a loop with so many products, each of which stands there twice, by a number that stands ahead: it becomes no longer, but needs two new values for each.
func twice(products int) api.Code {
	ahead := []api.Inst{Read(0), Number(1, 0), Number(2, 1)}
	work := []api.Inst{Inst(api.Add, 4, 3, 2)}
	for i := range products {
		v := 10 + 3*i
		ahead = append(ahead, Number(v, int64(2+i)))
		work = append(work, Inst(api.Mul, v+1, 3, v), Inst(api.Mul, v+2, v, 3))
	}
	c := Main(Goes(1, ahead...), Behind(Branch(4, 1, 2, work...), Phi(3, 1, 4)), Ends())
	c.Funs[0].Vals = 10 + 3*products
	return c
}

// TestValuesThatAreTooMany: those that are gone keep their numbers.
func TestValuesThatAreTooMany(t *testing.T) {
	c := twice(11000)
	if d := mustFit(t, c); code.Size(d) != code.Size(c) || d.Funs[0].Vals != 5+5*11000 {
		t.Error(code.Size(c), code.Size(d), d.Funs[0].Vals)
	}
	wantErrLimit(t, twice(12500))
	c = twice(300)
	c.Funs[0].Vals = api.MaxVals
	if d := mustFit(t, c); d.Funs[0].Vals != api.MaxVals {
		t.Error(d.Funs[0].Vals)
	}
}

// TestWaysInThatAreTooMany: phis and blocks ahead of loops beyond what there may be.
func TestWaysInThatAreTooMany(t *testing.T) {
	t.Parallel()
	c := Main(Branch(0, 1, 2, Read(0), Read(1)), Goes(3), Goes(3), Behind(Branch(0, 3, 4), Phi(2, 0, 1, 2)), Ends())
	c = padded(c, api.MaxCode-1+5)
	if n := code.Size(mustFit(t, c)); n != api.MaxCode {
		t.Error(n)
	}
	wantErrLimit(t, padded(c, api.MaxCode+5))
	f := Fun(0, Branch(0, 1, 2, Read(0)), Branch(0, 1, 2))
	for len(f.Blocks) < api.MaxVals-2 {
		f.Blocks = append(f.Blocks, Goes(len(f.Blocks)+1))
	}
	f.Blocks = append(f.Blocks, Ends())
	if n := len(mustFit(t, Program(f)).Funs[0].Blocks); n != api.MaxVals {
		t.Error(n)
	}
	f.Blocks[len(f.Blocks)-1] = Goes(len(f.Blocks))
	f.Blocks = append(f.Blocks, Ends())
	wantErrLimit(t, Program(f))
}

// TestTheDeepestNest: one product of a counter that begins with that of the loop around it, and so on.
func TestTheDeepestNest(t *testing.T) {
	t.Parallel()
	c := nest(9000, 1, false)
	d := mustFit(t, c)
	// In each loop a phi and its step, ahead of all a product and a number; and the steps' number.
	if n := code.Size(d) - code.Size(c); n != 2*9000+2 {
		t.Error(n)
	}
	for _, input := range [][]int64{{0, 5, 0}, {1, 5, 1, 0, 1, 1, 0}} {
		holdRuns(t, c, d, input, 100000)
	}
}

// leftAtOnce is a function whose outermost loop is left at once if its parameter isn't 0; in the innermost one stands a row of products by one number. In each loop it is counted by another number, so that much would stand ahead of all.
func leftAtOnce(loops, count int) api.Fun {
	const param, one, first = 0, 1, 2
	last := first + loops
	l := []api.Block{Goes(1, Param(param, 0))}
	for i := range loops {
		l = append(l, Behind(Goes(i+2), Phi(first+i+1, []int{param, first + i}[min(i, 1)], last+1+i)))
	}
	l[1] = Behind(Branch(param, 2*loops+2, 2), l[1].Phis...)
	next := last + 1 + 2*loops
	work := Goes(loops+2, Number(one, 3))
	of := last
	for range count {
		work.Insts = append(work.Insts, Inst(api.Mul, next, of, one))
		of = next
		next++
	}
	l = append(l, work)
	for i := range loops {
		v, n := last-i, last+1+loops+i
		l = append(l, Branch(param, v-first, loops+3+i, Number(n, int64(100+i)), Inst(api.Add, v+loops, v, n)))
	}
	f := Fun(1, append(l[:2*loops+2], Ends())...)
	f.Blocks[2*loops+1].Else = 2*loops + 2
	f.Vals = next
	return f
}

// TestRunsThatWereShort: don't become too long, though most of what is done ahead of a loop is for nothing; products for which there is no room stay, but are none of a counter.
func TestRunsThatWereShort(t *testing.T) {
	t.Parallel()
	for _, x := range []struct{ loops, products int }{{1, 5}, {2, 300}, {8, 1000}, {20, 500}, {40, 200}} {
		main := Ends(Number(0, 1))
		for range 40 {
			main.Insts = append(main.Insts, Call(-1, 1, 0))
		}
		c := Program(Fun(0, main), leftAtOnce(x.loops, x.products))
		d := mustRun(t, c)
		if end := holdRuns(t, c, d, nil, 1000); end != api.Halt {
			t.Error(end)
		}
		if n := Count(d, api.ICopy); (n == 0) != (x.products == 5) {
			t.Error(x, n)
		}
		c.Funs[0] = Fun(0, Ends(Number(0, 0), Call(-1, 1, 0)))
		if end := hold(t, c, nil, 3000); end != api.Halt {
			t.Error(end)
		}
	}
}
