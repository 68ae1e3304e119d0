package source_test

import (
	"reflect"
	"slices"
	"strconv"
	"strings"
	"testing"

	"teasel/api"
	"teasel/source"
	"teasel/tree"
)

const counting = "fn main(): int { let s: int = 0; let i: int = 1; while i <= 3 { s = s + i; i = i + 1; } print s; return s; }"

func mustParse(t *testing.T, s string) api.Prog {
	t.Helper()
	p, at, e := tree.Parse(s)
	if e != api.OK {
		t.Fatalf("Parse(%.300q): %d at %d", s, e, at)
	}
	return p
}

func runOf(t *testing.T, s string, input []int64, fuel int) source.Result {
	t.Helper()
	r, e := source.Run(mustParse(t, s), input, fuel)
	if e != api.OK {
		t.Fatalf("Run(%.300q): %d", s, e)
	}
	return r
}

// wantRun holds a whole result; nil and empty lists are the same.
func wantRun(t *testing.T, s string, input []int64, fuel int, want source.Result) {
	t.Helper()
	r := runOf(t, s, input, fuel)
	if !slices.Equal(r.Outs, want.Outs) {
		t.Errorf("Run(%.300q) printed %v, want %v", s, r.Outs, want.Outs)
	}
	r.Outs, want.Outs = nil, nil
	if !reflect.DeepEqual(r, want) {
		t.Errorf("Run(%.300q) = %+v, want %+v", s, r, want)
	}
}

func nums(l ...int64) []int64 {
	return l
}

// show prints and answers what it is given, so that one sees when.
const show = "fn show(n: int): int { print n; return n; } fn yes(n: int): bool { print n; return true; } fn no(n: int): bool { print n; return false; } fn two(a: int, b: int): int { print a * 10 + b; return a; } "

// wantOuts is of statements in a main that returns 0.
func wantOuts(t *testing.T, body string, input []int64, want ...int64) {
	t.Helper()
	r := runOf(t, show+"fn main(): int { "+body+" return 0; }", input, source.MaxEntries)
	if r.End != api.Halt || r.Exit != 0 || !slices.Equal(r.Outs, want) {
		t.Errorf("%s ends with %d and prints %v, want %v", body, r.End, r.Outs, want)
	}
}

// wantTrap is of statements in a main; the trap is at the one of that number, of main's.
func wantTrap(t *testing.T, body string, input []int64, end byte, stmt int, outs ...int64) {
	t.Helper()
	s := "fn main(): int { " + body + " return 0; } " + show
	r := runOf(t, s, input, source.MaxEntries)
	if r.End != end || r.Stmt != stmt || r.Exit != 0 || !slices.Equal(r.Outs, outs) {
		t.Errorf("%s: %+v, want the end %d at %d, %v", body, r, end, stmt, outs)
	}
}

func TestExampleOfTheChapter(t *testing.T) {
	wantRun(t, counting, nil, source.MaxEntries, source.Result{End: api.Halt, Exit: 6, Outs: nums(6), Entries: 14, Calls: 1})
	wantTrap(t, "print 1 / 0;", nil, api.TrapZero, 1)
}

func TestNumbersAndSigns(t *testing.T) {
	wantOuts(t, "print 7; print true; print false; print 9223372036854775807;", nil, 7, 1, 0, greatest)
	wantOuts(t, "print -7; print ~7; print !true; print !false; print -9223372036854775807 - 1; print -(-9223372036854775807 - 1);", nil, -7, -8, 0, 1, least, least)
	wantOuts(t, "print 7 + 2; print 7 - 9; print 7 * -2; print -7 / 2; print -7 % 2; print 6 & 3; print 6 | 3; print 6 ^ 3; print 3 << 2; print -9 >> 1;", nil, 9, -2, -14, -3, -1, 2, 7, 5, 12, -5)
	wantOuts(t, "print 1 < 2; print 2 <= 1; print 2 > 1; print 1 >= 2; print 1 == 1; print 1 != 1; print true == false; print true != false;", nil, 1, 0, 1, 0, 1, 0, 0, 1)
	wantOuts(t, "print 9223372036854775807 + 1; print 4611686018427387904 * 2; print (-9223372036854775807 - 1) / -1; print (-9223372036854775807 - 1) % -1;", nil, least, least, least, 0)
	wantOuts(t, "print 1 << 64; print 1 << -1; print 1 << 127; print -8 >> 65; print 8 >> -1;", nil, 1, least, least, -4, 0)
}

func TestOperandsAreEvaluatedFromTheLeft(t *testing.T) {
	wantOuts(t, "print show(1) + show(2) * show(3);", nil, 1, 2, 3, 7)
	wantOuts(t, "print show(3) < show(2);", nil, 3, 2, 0)
	wantOuts(t, "print two(show(1), show(2));", nil, 1, 2, 12, 1)
	wantOuts(t, "two(two(1, 2), two(3, 4));", nil, 12, 34, 13)
	wantOuts(t, "print read() - read(); print read();", nums(7, 5, 1), 2, 1)
	wantOuts(t, "let a: arr[5]; a[show(1)] = show(2); print a[show(0) + show(1)];", nil, 1, 2, 0, 1, 2)
	wantOuts(t, "let a: arr[3]; a[read()] = read(); print a[2];", nums(2, 8), 8)
	wantOuts(t, "let x: int = 1; x = x + two(x + 1, x) + x; print x;", nil, 21, 4)
}

func TestTheRightOperandIsLookedAtIfItMustBe(t *testing.T) {
	wantOuts(t, "print yes(1) && no(2); print no(1) && yes(2); print yes(1) && yes(2);", nil, 1, 2, 0, 1, 0, 1, 2, 1)
	wantOuts(t, "print yes(1) || no(2); print no(1) || yes(2); print no(1) || no(2);", nil, 1, 1, 1, 2, 1, 1, 2, 0)
	wantOuts(t, "print no(1) && yes(2) || yes(3); print yes(1) || no(2) && no(3); print (no(1) || no(2)) && yes(3);", nil, 1, 3, 1, 1, 1, 1, 2, 0)
	wantOuts(t, "print false && 1 / 0 == 1; print true || read() == 1;", nil, 0, 1)
	wantOuts(t, "if yes(1) && no(2) { print 3; } else { print 4; } while no(5) || no(6) { }", nil, 1, 2, 4, 5, 6)
	wantOuts(t, "print yes(1) == no(2); print yes(1) != no(2);", nil, 1, 2, 0, 1, 2, 1)
	wantOuts(t, "let b: bool = no(1) && yes(2); print b; print !(yes(3) || yes(4));", nil, 1, 0, 3, 0)
}

func TestStatements(t *testing.T) {
	wantOuts(t, "let x: int; x = 3; let y: bool = x == 3; print x; print y; x = x * x; print x;", nil, 3, 1, 9)
	wantOuts(t, "if true { print 1; } if false { print 2; } if false { print 3; } else { print 4; } if true { print 5; } else { print 6; } print 7;", nil, 1, 4, 5, 7)
	wantOuts(t, "let i: int = 0; while i < 3 { print i; i = i + 1; } while false { print 9; } print i;", nil, 0, 1, 2, 3)
	wantOuts(t, "let i: int = 0; while i < 2 { let j: int = 0; while j < 2 { print i * 10 + j; j = j + 1; } i = i + 1; }", nil, 0, 1, 10, 11)
	wantOuts(t, "let i: int = 0; while i < 3 { if i == 1 { print 7; } else { print i; } i = i + 1; }", nil, 0, 7, 2)
	wantOuts(t, "show(4); two(5, 6);", nil, 4, 56)
	wantOuts(t, "while true { if true { return 0; } print 1; }", nil)
}

func TestCallsAndReturns(t *testing.T) {
	wantRun(t, "fn f(a: int, b: bool): int { if b { return a; } a = a + 1; b = true; return f(a, b) * 10; } fn main(): int { let a: int = 5; let r: int = f(a, false); print a; return r; }",
		nil, 99, source.Result{End: api.Halt, Exit: 60, Outs: nums(5), Entries: 10, Calls: 3})
	wantRun(t, "fn f() { print 1; } fn g() { return; } fn h() { if true { return; } print 2; } fn e() { } fn main(): int { f(); g(); h(); e(); return -1; }",
		nil, 99, source.Result{End: api.Halt, Exit: -1, Outs: nums(1), Entries: 9, Calls: 2})
	wantRun(t, "fn main(): int { return n(); } fn n(): int { while true { return 3; } return 4; }",
		nil, 99, source.Result{End: api.Halt, Exit: 3, Entries: 3, Calls: 2})
	wantRun(t, "fn b(): bool { return 1 < 2; } fn main(): int { if b() { return 1; } return 0; }",
		nil, 99, source.Result{End: api.Halt, Exit: 1, Entries: 3, Calls: 2})
	wantRun(t, "fn fib(n: int): int { if n < 2 { return n; } return fib(n - 1) + fib(n - 2); } fn main(): int { return fib(10); }",
		nil, 9999, source.Result{End: api.Halt, Exit: 55, Entries: 2*177 + 1, Calls: 11})
	wantRun(t, "fn main(): int { let n: int = read(); if n > 0 { return main() + n; } return 0; }",
		nums(3, 4, 0), 99, source.Result{End: api.Halt, Exit: 7, Entries: 9, Calls: 3})
}

func TestArrays(t *testing.T) {
	wantOuts(t, "let a: arr[3]; print a[0]; print a[2]; a[2] = 5; a[0] = a[2] + 1; print a[0]; print a[1]; print len(a);", nil, 0, 0, 6, 0, 3)
	wantRun(t, "fn set(a: arr, n: int) { a[n] = n; if n > 0 { set(a, n - 1); } } fn sum(x: arr, y: arr): int { x[0] = 10; return x[0] + y[0] + y[1]; } fn main(): int { let b: arr[2]; set(b, 1); return sum(b, b); }",
		nil, 99, source.Result{End: api.Halt, Exit: 21, Entries: 10, Calls: 3, Cells: 3})
	wantRun(t, "fn f(n: int): int { let a: arr[2]; a[0] = a[0] + n; if n > 0 { f(n - 1); } return a[0]; } fn main(): int { return f(1) * 10 + f(2); }",
		nil, 99, source.Result{End: api.Halt, Exit: 12, Entries: 24, Calls: 4, Cells: 9})
	wantRun(t, "fn f(): int { if false { return 1; } let a: arr[5]; return len(a); } fn main(): int { f(); let b: arr[1]; print f(); return 0; }",
		nil, 99, source.Result{End: api.Halt, Outs: nums(5), Entries: 10, Calls: 2, Cells: 8})
}

// TestTraps: main's statements are those from 1 on.
func TestTraps(t *testing.T) {
	wantTrap(t, "print 1; print 1 / 0; print 2;", nil, api.TrapZero, 2, 1)
	wantTrap(t, "let z: int = 0; let x: int = 1 % z;", nil, api.TrapZero, 2)
	wantTrap(t, "let a: arr[3]; print a[2]; print a[3];", nil, api.TrapCell, 3, 0)
	wantTrap(t, "let a: arr[3]; print a[-1];", nil, api.TrapCell, 2)
	wantTrap(t, "let a: arr[3]; print a[9223372036854775807];", nil, api.TrapCell, 2)
	wantTrap(t, "let a: arr[3]; print a[-9223372036854775807 - 1];", nil, api.TrapCell, 2)
	wantTrap(t, "let a: arr[3]; print a[4294967296];", nil, api.TrapCell, 2)
	wantTrap(t, "let a: arr[3]; a[2] = 1; a[3] = 1;", nil, api.TrapCell, 3)
	wantTrap(t, "let a: arr[3]; a[-1] = 1;", nil, api.TrapCell, 2)
	wantTrap(t, "print read(); print read();", nums(7), api.TrapIn, 2, 7)
}

// TestWhatTrapsFirst: what is evaluated farther left; a thing itself behind all its operands.
func TestWhatTrapsFirst(t *testing.T) {
	wantTrap(t, "print read() / 0;", nil, api.TrapIn, 1)
	wantTrap(t, "print 1 / 0 + read();", nil, api.TrapZero, 1)
	wantTrap(t, "print show(1) / show(0) + show(2);", nil, api.TrapZero, 1, 1, 0)
	wantTrap(t, "let a: arr[1]; print a[1] + read();", nil, api.TrapCell, 2)
	wantTrap(t, "let a: arr[1]; a[1] = read();", nil, api.TrapIn, 2)
	wantTrap(t, "let a: arr[1]; a[1] = 1 / 0;", nil, api.TrapZero, 2)
	wantTrap(t, "let a: arr[1]; a[1 / 0] = read();", nil, api.TrapZero, 2)
	wantTrap(t, "let a: arr[1]; a[show(1)] = show(2);", nil, api.TrapCell, 2, 1, 2)
	wantTrap(t, "print two(show(1), 1 / 0);", nil, api.TrapZero, 1, 1)
	wantTrap(t, "print two(1 / 0, show(1));", nil, api.TrapZero, 1)
}

// TestWhereItTraps: at the statement that was entered last in the innermost call.
func TestWhereItTraps(t *testing.T) {
	wantTrap(t, "if 1 / 0 == 0 { print 1; }", nil, api.TrapZero, 1)
	wantTrap(t, "let i: int = 0; while 5 / (2 - i) > 0 { i = i + 1; }", nil, api.TrapZero, 2)
	wantTrap(t, "let i: int = 3; while true { i = i - 1; if i == 1 { print 6 / (i - 1); } print i; }", nil, api.TrapZero, 5, 2)
	wantTrap(t, "print show(1) + 1 / 0;", nil, api.TrapZero, 1, 1)
	wantTrap(t, "print show(1) + read();", nil, api.TrapIn, 1, 1)
	s := "fn f(n: int): int { if n == 0 { return 1 / n; } return f(n - 1); } fn main(): int { print 5; return f(3); }"
	wantRun(t, s, nil, 99, source.Result{End: api.TrapZero, Outs: nums(5), Entries: 10, Stmt: 2, Calls: 5})
	wantRun(t, "fn f(a: arr): int { return a[len(a)]; } fn main(): int { let b: arr[7]; return f(b) + read(); }", nil, 99, source.Result{End: api.TrapCell, Entries: 3, Stmt: 1, Calls: 2, Cells: 8})
}

func TestFuel(t *testing.T) {
	wantRun(t, counting, nil, 14, source.Result{End: api.Halt, Exit: 6, Outs: nums(6), Entries: 14, Calls: 1})
	wantRun(t, counting, nil, 13, source.Result{End: api.StopFuel, Outs: nums(6), Entries: 13, Calls: 1})
	wantRun(t, counting, nil, 12, source.Result{End: api.StopFuel, Entries: 12, Calls: 1})
	wantRun(t, counting, nil, 0, source.Result{End: api.StopFuel, Calls: 1})
	wantRun(t, "fn main(): int { while true { } return 0; }", nil, source.MaxEntries, source.Result{End: api.StopFuel, Entries: source.MaxEntries, Calls: 1})
	wantRun(t, "fn main(): int { print 1; print 2; return 1 / 0; }", nil, 2, source.Result{End: api.StopFuel, Outs: nums(1, 2), Entries: 2, Calls: 1})
	wantRun(t, "fn main(): int { print 1; return 1 / 0; }", nil, 2, source.Result{End: api.TrapZero, Outs: nums(1), Entries: 2, Stmt: 2, Calls: 1})
	wantRun(t, "fn e() { } fn f() { print 2; } fn main(): int { let a: arr[3]; e(); f(); return 0; }", nil, 3, source.Result{End: api.StopFuel, Entries: 3, Calls: 2, Cells: 4})
}

// TestMaxEntries: a run that needs just so many, and one that needs one more.
func TestMaxEntries(t *testing.T) {
	s := "fn main(): int { let n: int = 0; while n < " + strconv.Itoa((source.MaxEntries-4)/2) + " { n = n + 1; } let z: int; return n; }"
	wantRun(t, s, nil, source.MaxEntries, source.Result{End: api.Halt, Exit: (source.MaxEntries - 4) / 2, Entries: source.MaxEntries, Calls: 1})
	wantRun(t, s, nil, source.MaxEntries-1, source.Result{End: api.StopFuel, Entries: source.MaxEntries - 1, Calls: 1})
	wantState(t, s, nil, source.MaxEntries, 0, api.Frame{Stmt: 5, Vars: []api.Shown{has(0, (source.MaxEntries-4)/2)}})
	s = strings.Replace(s, "let z", "print 1; let z", 1)
	wantRun(t, s, nil, source.MaxEntries, source.Result{End: api.StopFuel, Outs: nums(1), Entries: source.MaxEntries, Calls: 1})
}

func TestErrorsOfRun(t *testing.T) {
	for _, c := range []struct {
		s    string
		fuel int
		e    api.Errno
	}{
		{counting, -1, api.ErrArg}, {counting, source.MaxEntries + 1, api.ErrArg}, {counting, 1 << 40, api.ErrArg}, {counting, least, api.ErrArg},
		{"fn f(){}", -1, api.ErrArg}, {"fn f(){}", source.MaxEntries + 1, api.ErrArg}, {"fn f(){}", 0, api.ErrMain},
		{"fn main(): int { return x; }", 5, api.ErrName}, {"fn main(): int { let x: int; return x; }", 5, api.ErrInit},
	} {
		r, e := source.Run(mustParse(t, c.s), nums(1), c.fuel)
		if e != c.e || !reflect.DeepEqual(r, source.Result{}) {
			t.Errorf("Run(%s, %d) = %+v %d, want the error %d", c.s, c.fuel, r, e, c.e)
		}
	}
}
