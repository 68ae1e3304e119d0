package lower_test

import (
	"math"
	"reflect"
	"slices"
	"strconv"
	"strings"
	"testing"

	"teasel/api"
	"teasel/code"
	"teasel/lower"
	"teasel/samples"
	"teasel/source"
	"teasel/trace"
	"teasel/tree"
	"teasel/types"
)

func nums(l ...int64) []int64 {
	return l
}

func mustParse(t *testing.T, s string) api.Prog {
	t.Helper()
	p, at, e := tree.Parse(s)
	if e != api.OK {
		t.Fatalf("Parse(%.300q): %d at %d", s, e, at)
	}
	return p
}

// mustLower answers right code.
func mustLower(t *testing.T, p api.Prog) api.Code {
	t.Helper()
	c, at, e := lower.Program(p)
	if e != api.OK || at != 0 {
		t.Fatalf("Program answers %d at %d of\n%.3000s", e, at, tree.Show(p))
	}
	if e := code.Check(c); e != api.OK {
		t.Fatalf("the code isn't right: %d, of\n%.3000s", e, tree.Show(p))
	}
	return c
}

// enough is as much fuel as the chapter says is enough for so many entries, as its words say it at the least.
func enough(entries int, s string) int {
	return (4*entries + 1) * len(s)
}

// both is a program, its code, and an input.
type both struct {
	text  string
	p     api.Prog
	info  api.Info
	c     api.Code
	input []int64
}

func newBoth(t *testing.T, s string, input []int64) both {
	t.Helper()
	p := mustParse(t, s)
	info, _, e := types.Check(p)
	if e != api.OK {
		t.Fatalf("%d of\n%s", e, s)
	}
	return both{s, p, info, mustLower(t, p), input}
}

// frames are what is asked of a mark's frames: those of an entry, of an array that it is shown, and no more.
func (b both) frames(l []api.Frame) []api.Frame {
	out := []api.Frame{}
	for _, f := range l {
		g := api.Frame{Fn: f.Fn, Stmt: f.Stmt, Vars: []api.Shown{}}
		for _, v := range f.Vars {
			if b.info.Vars[f.Fn][v.Var].Type == api.TArr {
				v.N, v.List = 0, nil
			}
			g.Vars = append(g.Vars, v)
		}
		out = append(out, g)
	}
	return out
}

// wantStates holds the states at some marks against those at the entries.
func (b both) wantStates(t *testing.T, fuel int, marks ...int) {
	t.Helper()
	for _, k := range marks {
		want, n, e := source.State(b.p, b.input, k)
		if e != api.OK {
			t.Fatalf("no entry %d: %d", k, e)
		}
		l, outs, e := trace.State(b.c, b.input, k, fuel)
		if e != api.OK || outs != n || !reflect.DeepEqual(b.frames(l), b.frames(want)) {
			t.Fatalf("the state at the mark %d is\n%+v %d %d, want\n%+v %d, of\n%s", k, l, outs, e, want, n, b.text)
		}
	}
}

// firstAndLast answers the numbers of the first marks, of some between and of the last ones.
func firstAndLast(marks int) []int {
	var l []int
	for k := 1; k <= marks; k++ {
		if k <= 30 || k > marks-5 || k%97 == 0 {
			l = append(l, k)
		}
	}
	return l
}

// hold holds the run of the code against that of the program, as far as entries reach, and answers how that ends.
func hold(t *testing.T, s string, input []int64, entries int) byte {
	t.Helper()
	b := newBoth(t, s, input)
	want, e := source.Run(b.p, input, entries)
	if e != api.OK {
		t.Fatal(e)
	}
	fuel := enough(want.Entries, s)
	if fuel > api.MaxFuel {
		t.Fatal("the run is too long", fuel)
	}
	r, e := trace.Run(b.c, input, fuel)
	if e != api.OK {
		t.Fatal(e)
	}
	switch {
	case want.End == api.StopFuel:
		if r.Marks < want.Entries || len(r.Outs) < len(want.Outs) || !slices.Equal(r.Outs[:len(want.Outs)], want.Outs) {
			t.Fatalf("%+v, want at least\n%+v, of\n%s", r, want, s)
		}
	case r.End != want.End || r.Exit != want.Exit || r.Marks != want.Entries || r.Calls != want.Calls || !slices.Equal(r.Outs, want.Outs):
		t.Fatalf("%+v, want\n%+v, of\n%s", r, want, s)
	case want.Stmt > 0 && !reflect.DeepEqual(b.c.Stops[r.Stop], []api.Spot{{Fn: b.info.Points[want.Stmt].Fn, Stmt: want.Stmt}}):
		t.Fatalf("it traps at %v, want the statement %d, of\n%s", b.c.Stops[r.Stop], want.Stmt, s)
	}
	b.wantStates(t, fuel, firstAndLast(want.Entries)...)
	if want.End != api.StopFuel {
		if _, _, e := trace.State(b.c, input, want.Entries+1, fuel); e != api.ErrEnd {
			t.Fatalf("a mark behind the last: %d, of\n%s", e, s)
		}
	}
	return want.End
}

func TestExampleOfTheChapter(t *testing.T) {
	c := mustLower(t, mustParse(t, "fn main(): int { print 1 + 2; return 0; }"))
	r, e := trace.Run(c, nil, 50)
	if e != api.OK || r.End != api.Halt || r.Marks != 2 || !slices.Equal(r.Outs, nums(3)) {
		t.Error(r, e)
	}
}

// TestStatements: each kind, on each of its ways.
func TestStatements(t *testing.T) {
	const ahead = "fn two(a: int, b: int): int { print a * 10 + b; return a; } fn yes(n: int): bool { print n; return true; } fn no(n: int): bool { print n; return false; } fn none() { } fn early(n: int) { if n > 2 { return; } print n; } fn set(a: arr, n: int) { a[n] = n * n; } "
	for _, body := range []string{
		"return 3;",
		"let x: int; x = 4; let y: bool = x == 4; print y; return x;",
		"let a: arr[3]; a[1] = 5; a[a[1] - 3] = a[1] + 1; print a[0]; print a[1]; print a[2]; return len(a);",
		"let i: int = 0; while i < 3 { let z: int; print i; z = i * 2; i = i + 1; print z; } return i;",
		"while false { print 1; } return 2;", "while false { } return 2;", "while true { return 7; } return 8;",
		"let n: int = 5; while n > 0 { while n > 2 { n = n - 1; } n = n - 1; } return n;",
		"if true { } return 1;", "if false { } else { print 3; } return 1;", "if true { print 2; } else { } return 1;", "if true { return 2; } return 1;", "if false { return 2; } return 1;",
		"if true { return 2; } else { return 1; }", "if false { return 2; } else { return 1; }", "if false { return 2; } else { print 4; } return 5;", "if true { print 2; } else { return 4; } return 5;",
		"if no(1) { return 2; } else { if yes(2) { return 3; } else { return 4; } }", "if yes(1) { if no(2) { return 3; } } else { return 4; } return 5;",
		"let x: int; if yes(1) { x = 1; } else { x = 2; } let y: int = x; return y;",
		"none(); early(1); early(3); two(1, 2); let a: arr[9]; set(a, 3); return a[3];",
		"return two(two(1, 2), two(3, 4)) + two(5, 6) * two(7, 8);",
		"let x: int = 3; x = two(x, 1) + x; return x;",
		"print -5; print ~5; print !true; print !false; print - -5; return 7 % 4 - 1 << 3 >> 1 & 6 | 8 ^ 3;",
		"print 1 < 2; print 2 <= 1; print 1 > 2; print 2 >= 1; print 1 == 2; print 1 != 2; print true == false; print true != false; return 0;",
		"print yes(1) && yes(2); print yes(1) && no(2); print no(1) && yes(2); print no(1) && no(2); return 0;",
		"print yes(1) || yes(2); print yes(1) || no(2); print no(1) || yes(2); print no(1) || no(2); return 0;",
		"print yes(1) && no(2) || yes(3) && yes(4); print no(1) || (yes(2) && no(3) || no(4)) && yes(5); return 0;",
		"if yes(1) && no(2) || no(3) { print 1; } else { print 2; } while no(1) || no(2) { } return 0;",
		"print (yes(1) && yes(2)) == (no(3) || yes(4)); return two(read(), read());",
		"print 9223372036854775807 + 1; print 4611686018427387904 * 2; return 1 << 63;",
	} {
		hold(t, ahead+"fn main(): int { "+body+" }", nums(6, 7), 1000)
		hold(t, "fn main(): int { "+body+" } "+ahead, nums(6, 7), 1000)
	}
}

// TestTraps: of each kind, at the statement that was entered last in the innermost call.
func TestTraps(t *testing.T) {
	for s, want := range map[string]byte{
		"fn main(): int { print 1; return 1 / read(); }":                                                                           api.TrapZero,
		"fn main(): int { print 1; let x: int = read(); x = 5 % x; return x; }":                                                    api.TrapZero,
		"fn main(): int { let n: int = 2; while 4 / n > 0 { n = n - 1; } return n; }":                                              api.TrapZero,
		"fn main(): int { let n: int = 0; if 4 / n > 0 { n = n - 1; } return n; }":                                                 api.TrapZero,
		"fn main(): int { let a: arr[2]; print 3; return a[2]; }":                                                                  api.TrapCell,
		"fn main(): int { let a: arr[2]; print 3; return a[-1]; }":                                                                 api.TrapCell,
		"fn main(): int { let a: arr[2]; a[2] = read(); return 0; }":                                                               api.TrapCell,
		"fn main(): int { let a: arr[2]; let b: arr[2]; a[1 << 63] = read(); return 0; }":                                          api.TrapCell,
		"fn main(): int { let a: arr[2]; a[5] = 1 / read(); return 0; }":                                                           api.TrapZero,
		"fn main(): int { let a: arr[2]; a[5] = read() + read(); return 0; }":                                                      api.TrapIn,
		"fn main(): int { print read(); print read(); return 0; }":                                                                 api.TrapIn,
		"fn main(): int { print false && 1 / 0 == 1; print true || read() + read() == 1; print true && 1 % 0 == 1; return 0; }":    api.TrapZero,
		"fn f(n: int): int { if n == 0 { return 1 / n; } print n; return f(n - 1) + 1; } fn main(): int { print 9; return f(4); }": api.TrapZero,
		"fn f(n: int): int { return n; } fn main(): int { print 9; return f(4) / f(0) + f(5); }":                                   api.TrapZero,
		"fn f(a: arr) { a[1] = 0; a[2] = 0; } fn main(): int { let a: arr[2]; f(a); return 0; }":                                   api.TrapCell,
	} {
		if end := hold(t, s, nums(0), 1000); end != want {
			t.Errorf("%s ends with %d, not %d", s, end, want)
		}
	}
}

// TestArraysAreGone: when their function's call ends, on each of its ways; so much heap is in use as in the program's run, and never more.
func TestArraysAreGone(t *testing.T) {
	f := "fn f(n: int): int { let a: arr[200]; let b: arr[55]; a[0] = n; if n == 1 { return a[0] + b[54]; } else { if n == 2 { return 2; } } a[1] = g(n); return a[1]; } fn g(n: int): int { let c: arr[256]; c[255] = n; h(c); h(c); return c[255]; } fn h(c: arr) { let d: arr[100]; d[0] = c[255]; c[255] = c[255] + 1; if d[0] == 4 { return; } d[1] = 1; } "
	main := "fn main(): int { let i: int = 0; let s: int = 0; while i < 100 { s = s + f(i % 5); i = i + 1; } return s; }"
	if end := hold(t, f+main, nil, 5000); end != api.Halt {
		t.Error(end)
	}
	hold(t, "fn f(): int { let a: arr[3]; let s: int = a[0] + a[1] + a[2]; a[0] = 1; a[1] = 1; a[2] = 1; return s; } fn main(): int { let i: int = 0; while i < 9 { print f(); i = i + 1; } return 0; }", nil, 500)
	hold(t, "fn f(n: int): int { if n == 0 { return 5; } let a: arr[4]; a[3] = f(n - 1); return a[3]; } fn main(): int { print f(3); return f(800); }", nil, 6000)
}

// TestMostCells: of a run with just MaxHeap cells in use, and of one with more.
func TestMostCells(t *testing.T) {
	s := func(cells int) string {
		return "fn f(n: int): int { let a: arr[255]; a[254] = n; if n > 0 { return f(n - 1); } let b: arr[" + strconv.Itoa(cells) + "]; return b[0] + a[254]; } fn main(): int { return f(14); }"
	}
	if r, _ := source.Run(mustParse(t, s(255)), nil, 100); r.Cells != api.MaxHeap {
		t.Fatal(r)
	}
	if end := hold(t, s(255), nil, 100); end != api.Halt {
		t.Error(end)
	}
	b := newBoth(t, s(256), nil)
	if r, _ := trace.Run(b.c, nil, 5000); r.End != api.StopHeap || r.Marks != 61 {
		t.Error(r)
	}
	b.wantStates(t, 5000, firstAndLast(61)...)
}

func TestManyCalls(t *testing.T) {
	hold(t, "fn f(n: int): int { if n == 0 { return 0; } return f(n - 1) + 1; } fn main(): int { return f(500); }", nil, 2000)
	hold(t, "fn a(n: int): bool { if n == 0 { return true; } return b(n - 1); } fn b(n: int): bool { if n == 0 { return false; } return a(n - 1); } fn main(): int { print a(101); print b(101); return 0; }", nil, 2000)
}

// TestRunsThatDoNotEnd: as far as they are looked at.
func TestRunsThatDoNotEnd(t *testing.T) {
	for _, s := range []string{
		"fn main(): int { while true { } return 0; }",
		"fn main(): int { let i: int = 0; while true { i = i + 1; print i; } return 0; }",
		"fn f(n: int): int { return f(n + 1) + n; } fn main(): int { return f(0); }",
		"fn f() { f(); } fn main(): int { f(); return 0; }",
		"fn f(a: arr, n: int) { a[n & 1] = n; f(a, n + 1); } fn main(): int { let a: arr[2]; f(a, 0); return 0; }",
		"fn n() { } fn main(): int { while true { n(); } return 0; }",
	} {
		for _, entries := range []int{0, 1, 2, 3, 50, 2000} {
			if end := hold(t, s, nil, entries); end != api.StopFuel {
				t.Errorf("%s ends with %d", s, end)
			}
		}
	}
}

// TestVariablesAreThoseThatAreSure: in inner blocks, behind them, and in loops; hold asks for just those.
func TestVariablesAreThoseThatAreSure(t *testing.T) {
	hold(t, "fn main(): int { let x: int; let b: bool = true; if b { x = 5; } while b { x = 6; b = false; let q: int = x; print q; } let y: int = 1; return y; }", nil, 100)
	hold(t, "fn f(n: int, a: arr, b: bool): int { let x: int; a[n] = n + 7; if b { let y: int = n; x = f(n + 1, a, y > 5); } else { x = 1; } return x; } fn main(): int { let d: arr[3]; print 4; let r: int = f(0, d, true) + f(2, d, false); return r; }", nil, 100)
}

func TestAgainstTheSource(t *testing.T) {
	had := map[byte]int{}
	for seed := range uint64(2500) {
		input := nums(3, -1, 0, int64(seed), 7, 1, -1<<63, 2, 5, 1, 1)[:seed%12]
		entries := 400
		if seed%4 == 0 {
			entries = int(seed % 61)
		}
		had[hold(t, samples.Text(seed, 0), input, entries)]++
	}
	for end := byte(api.Halt); end <= api.StopFuel; end++ {
		if had[end] < 10 {
			t.Errorf("only %d of the runs end with %d", had[end], end)
		}
	}
}

// TestWhatIsNotGoneRound: right operands at which looking does nothing stand in a row; where anything is done, or may trap, it is gone round.
func TestWhatIsNotGoneRound(t *testing.T) {
	for right, row := range map[string]bool{
		"b": true, "true": true, "false": true, "!b": true, "!!b": true, "!true": true,
		"n < 3": false, "!(n < 3)": false, "f(b)": false, "!f(b)": false, "6 / n > 1": false, "c[n] > 0": false, "read() > 4": false, "(b && n < 3)": false,
	} {
		for _, sign := range []string{"&&", "||"} {
			s := "fn f(b: bool): bool { print b; return !b; } fn main(): int { let c: arr[3]; let n: int = read(); let a: bool = read() > 0; let b: bool = read() > 0; print a " + sign + " " + right + "; print f(a) " + sign + " " + right + "; return n; }"
			for _, input := range [][]int64{nums(0, 0, 0), nums(0, 1, 0, 5, 5), nums(2, 0, 1, 3, 4), nums(7, 1, 1)} {
				hold(t, s, input, 50)
			}
			c := mustLower(t, mustParse(t, s))
			if (len(c.Funs[c.Main].Blocks) == 1) != row {
				t.Errorf("%d blocks, of %s", len(c.Funs[c.Main].Blocks), s)
			}
		}
	}
}

// rows answers all rows of so many signs.
func rows(signs string, n int) []string {
	if n == 0 {
		return []string{""}
	}
	var l []string
	for _, row := range rows(signs, n-1) {
		for _, sign := range signs {
			l = append(l, row+string(sign))
		}
	}
	return l
}

// TestSignsInARow: each row of up to six, and long ones, that come to few instructions.
func TestSignsInARow(t *testing.T) {
	long := strings.Repeat("-~~-~", 300)
	for n := range 7 {
		for _, row := range append(rows("-~", n), long+"-"[:n%2]) {
			for _, x := range []int64{0, 1, -7, math.MinInt64, math.MaxInt64} {
				s := "fn main(): int { let x: int = read(); print 3 - " + row + "x; return " + row + "-9223372036854775807; }"
				if hold(t, s, nums(x), 9) != api.Halt {
					t.Error(s)
				}
				if n := code.Size(mustLower(t, mustParse(t, s))); n > 20 {
					t.Errorf("%d instructions, of %.200s", n, s)
				}
			}
		}
		row := strings.Repeat("!", n)
		for _, row := range []string{row, strings.Repeat("!!", 500) + row} {
			s := "fn main(): int { let b: bool = read() > 0; if " + row + "b { print " + row + "true; } print " + row + "(b && " + row + "b); return 0; }"
			for _, x := range []int64{0, 1} {
				if hold(t, s, nums(x), 9) != api.Halt {
					t.Error(s)
				}
			}
			if n := code.Size(mustLower(t, mustParse(t, s))); n > 30 {
				t.Errorf("%d instructions, of %.200s", n, s)
			}
		}
	}
}

func FuzzRun(f *testing.F) {
	for seed := range uint64(20) {
		f.Add(samples.Text(seed, 0), int64(seed), 200)
	}
	f.Fuzz(func(t *testing.T, s string, n int64, entries int) {
		p, _, e := tree.Parse(s)
		if e != api.OK || len(s) > 2000 || strings.Count(s, "arr") > 8 {
			return
		}
		if _, _, e := types.Check(p); e == api.OK {
			hold(t, s, nums(n, 2, n), min(max(0, entries), 300))
		}
	})
}
