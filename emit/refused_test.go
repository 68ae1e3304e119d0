package emit_test

import (
	"math"
	"reflect"
	"testing"

	"teasel/api"
	"teasel/code"
	"teasel/emit"
	. "teasel/parts"
	"teasel/samples"
)

// wantErrForm holds that there is no image of code, and that no passes are done on it.
func wantErrForm(t *testing.T, name string, c api.Code) {
	t.Helper()
	wantNoImage(t, name, c, api.ErrForm)
	for _, opt := range []byte{0, 1, 2, 4, 8, 16, 32, emit.All} {
		if d, e := emit.Passes(c, opt); e != api.ErrForm || !reflect.DeepEqual(d, api.Code{}) {
			t.Errorf("Passes of %s with %d: %d, %s", name, opt, e, told(d))
		}
	}
}

func wantNoImage(t *testing.T, name string, c api.Code, want api.Errno) {
	t.Helper()
	for _, all := range []bool{false, true} {
		if img, e := emit.Image(c, all); e != want || !reflect.DeepEqual(img, api.Image{}) {
			t.Errorf("Image of %s: %d, not %d, %s", name, e, want, told(img))
		}
	}
}

// TestCodeThatIsRefused: what isn't right, too long code, too, and what is right but not plain.
func TestCodeThatIsRefused(t *testing.T) {
	t.Parallel()
	for _, l := range []map[string]api.Code{Wrong(), WithVariables()} {
		for name, c := range l {
			wantErrForm(t, name, c)
		}
	}
}

// hasNumbers tells whether no variable that is known at a mark or a call has a number below 0.
func hasNumbers(c api.Code) bool {
	for _, f := range c.Funs {
		for _, b := range f.Blocks {
			for _, x := range b.Insts {
				for _, d := range x.Dbg {
					if d.Var < 0 && (x.Op == api.IMark || x.Op == api.ICall) {
						return false
					}
				}
			}
		}
	}
	return true
}

// TestFaultsByChance: of code that isn't plain nothing is made, of other code something is.
func TestFaultsByChance(t *testing.T) {
	t.Parallel()
	done, numbers := 0, 0
	for seed := range uint64(2000) {
		c := samples.Code(seed, int(seed%3), int(seed/3%4))
		switch {
		case !code.Plain(c):
			wantErrForm(t, "code by chance", c)
		case !hasNumbers(c):
			numbers++
			wantNoImage(t, "a variable's number", c, api.ErrForm)
		default:
			done++
			mustImage(t, c, seed%2 == 0)
		}
	}
	if done < 300 || done > 1700 || numbers == 0 {
		t.Error(done, numbers)
	}
}

// TestOptOutOfRange: ahead of all else.
func TestOptOutOfRange(t *testing.T) {
	t.Parallel()
	for opt := emit.All + 1; opt < 256; opt++ {
		for _, c := range []api.Code{Main(Ends()), {}} {
			if d, e := emit.Passes(c, byte(opt)); e != api.ErrArg || !reflect.DeepEqual(d, api.Code{}) {
				t.Error(opt, e, d)
			}
		}
		for _, s := range []string{"fn main(): int { return 0; }", "", "fn", "fn main(): int { return x; }"} {
			if img, at, e := emit.Compile(s, byte(opt)); e != api.ErrArg || at != 0 || !reflect.DeepEqual(img, api.Image{}) {
				t.Error(opt, e, at, s)
			}
		}
	}
}

// numbered is code whose numbers of a function, a statement and a variable are these, the one of a stop that nothing is at.
func numbered(fn, stmt, variable int) api.Code {
	c := Program(Fun(0, Ends(At(0, Mark(), IsNumber(variable, 4)), At(0, Call(-1, 1), IsNumber(variable, 5)))), Fun(0, Ends(At(1, Mark()))))
	c.Stops = [][]api.Spot{{{Fn: fn, Stmt: stmt}}, {{Fn: 0, Stmt: 1}, {Fn: 1, Stmt: 2}}, {{Fn: 1, Stmt: 1}, {Fn: fn, Stmt: stmt}}}
	return c
}

// TestNumbersOfDebugInformation: from 0 to 2^31 - 1.
func TestNumbersOfDebugInformation(t *testing.T) {
	t.Parallel()
	const most = 1<<31 - 1
	for _, n := range []int{0, 1, most} {
		for _, c := range []api.Code{numbered(n, 1, 1), numbered(1, n, 1), numbered(1, 1, n), numbered(n, n, n)} {
			wantEnd(t, "numbers", c, nil, api.Halt)
		}
	}
	for _, n := range []int{-1, most + 1, math.MinInt, math.MaxInt} {
		wantNoImage(t, "a function's number", numbered(n, 1, 1), api.ErrForm)
		wantNoImage(t, "a statement's number", numbered(1, n, 1), api.ErrForm)
		wantNoImage(t, "a variable's number", numbered(1, 1, n), api.ErrForm)
		for fn := range 2 {
			c := numbered(1, 1, 1)
			c.Funs[0].Blocks[0].Insts[fn].Dbg[0].Var = n
			wantNoImage(t, "a variable's number", c, api.ErrForm)
		}
		c := numbered(1, 1, 1)
		c.Stops[2][1].Stmt = n
		wantNoImage(t, "a stop that nothing is at", c, api.ErrForm)
		// What is no mark and no call isn't looked at.
		c = numbered(1, 1, 1)
		c.Funs[0].Blocks[0].Insts = append(c.Funs[0].Blocks[0].Insts, At(0, Read(0), IsNumber(n, 1)))
		wantEnd(t, "what isn't looked at", c, nums(1), api.Halt)
		// Passes are not about images.
		if _, e := emit.Passes(numbered(n, n, n), emit.All); e != api.OK {
			t.Error(e)
		}
	}
}
