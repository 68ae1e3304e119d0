package source_test

import (
	"reflect"
	"slices"
	"testing"

	"teasel/api"
	"teasel/source"
)

func has(variable int, n int64) api.Shown {
	return api.Shown{Var: variable, Has: true, N: n}
}

func cells(variable int, l ...int64) api.Shown {
	return api.Shown{Var: variable, Has: true, List: l}
}

// plain makes empty lists of nil ones.
func plain(l []api.Frame) []api.Frame {
	out := []api.Frame{}
	for _, f := range l {
		g := api.Frame{Fn: f.Fn, Stmt: f.Stmt, Vars: []api.Shown{}}
		for _, v := range f.Vars {
			v.List = append([]int64{}, v.List...)
			g.Vars = append(g.Vars, v)
		}
		out = append(out, g)
	}
	return out
}

func wantState(t *testing.T, s string, input []int64, k, outs int, want ...api.Frame) {
	t.Helper()
	l, n, e := source.State(mustParse(t, s), input, k)
	if e != api.OK || n != outs || !reflect.DeepEqual(plain(l), plain(want)) {
		t.Errorf("State(%.300q, %d) = %+v %d %d, want %+v %d", s, k, l, n, e, want, outs)
	}
}

func frame(fn, stmt int, vars ...api.Shown) api.Frame {
	return api.Frame{Fn: fn, Stmt: stmt, Vars: vars}
}

func TestStatesOfTheChaptersExample(t *testing.T) {
	wantState(t, counting, nil, 1, 0, frame(0, 1))
	wantState(t, counting, nil, 2, 0, frame(0, 2, has(0, 0)))
	wantState(t, counting, nil, 3, 0, frame(0, 3, has(0, 0), has(1, 1)))
	wantState(t, counting, nil, 4, 0, frame(0, 4, has(0, 0), has(1, 1)))
	wantState(t, counting, nil, 5, 0, frame(0, 5, has(0, 1), has(1, 1)))
	wantState(t, counting, nil, 6, 0, frame(0, 3, has(0, 1), has(1, 2)))
	wantState(t, counting, nil, 12, 0, frame(0, 3, has(0, 6), has(1, 4)))
	wantState(t, counting, nil, 13, 0, frame(0, 6, has(0, 6), has(1, 4)))
	wantState(t, counting, nil, 14, 1, frame(0, 7, has(0, 6), has(1, 4)))
}

func TestStatesOfCalls(t *testing.T) {
	s := `fn f(n: int, a: arr, b: bool): int {
	let x: int;
	a[n] = n + 7;
	if b { let y: int = n; x = f(n + 1, a, y > 5); } else { x = 1; }
	return x;
}
fn main(): int {
	let d: arr[3];
	print 4;
	let r: int = f(0, d, true) + f(2, d, false);
	return r;
}`
	// The statements: f's are 1 to 7 (let x, a[n], if, let y, x = f, x = 1, return), main's 8 to 11.
	main := func(l ...int64) api.Frame { return frame(1, 10, cells(0, l...)) }
	wantState(t, s, nil, 1, 0, frame(1, 8))
	wantState(t, s, nil, 2, 0, frame(1, 9, cells(0, 0, 0, 0)))
	wantState(t, s, nil, 3, 1, main(0, 0, 0))
	wantState(t, s, nil, 4, 1, frame(0, 1, has(0, 0), cells(1, 0, 0, 0), has(2, 1)), main(0, 0, 0))
	wantState(t, s, nil, 5, 1, frame(0, 2, has(0, 0), cells(1, 0, 0, 0), has(2, 1)), main(0, 0, 0))
	wantState(t, s, nil, 6, 1, frame(0, 3, has(0, 0), cells(1, 7, 0, 0), has(2, 1)), main(7, 0, 0))
	wantState(t, s, nil, 7, 1, frame(0, 4, has(0, 0), cells(1, 7, 0, 0), has(2, 1)), main(7, 0, 0))
	outer := frame(0, 5, has(0, 0), cells(1, 7, 0, 0), has(2, 1), has(4, 0))
	wantState(t, s, nil, 8, 1, outer, main(7, 0, 0))
	wantState(t, s, nil, 9, 1, frame(0, 1, has(0, 1), cells(1, 7, 0, 0), has(2, 0)), outer, main(7, 0, 0))
	outer.Vars[1] = cells(1, 7, 8, 0)
	wantState(t, s, nil, 11, 1, frame(0, 3, has(0, 1), cells(1, 7, 8, 0), has(2, 0)), outer, main(7, 8, 0))
	wantState(t, s, nil, 12, 1, frame(0, 6, has(0, 1), cells(1, 7, 8, 0), has(2, 0)), outer, main(7, 8, 0))
	wantState(t, s, nil, 13, 1, frame(0, 7, has(0, 1), cells(1, 7, 8, 0), has(2, 0), has(3, 1)), outer, main(7, 8, 0))
	wantState(t, s, nil, 14, 1, frame(0, 7, has(0, 0), cells(1, 7, 8, 0), has(2, 1), has(3, 1)), main(7, 8, 0))
	wantState(t, s, nil, 20, 1, frame(1, 11, cells(0, 7, 8, 9), has(1, 2)))
	if _, _, e := source.State(mustParse(t, s), nil, 21); e != api.ErrEnd {
		t.Error("the run has no 21st entry", e)
	}
}

// TestOnlySureVariablesAreShown: one that is seen, and has a value on this way alone, isn't.
func TestOnlySureVariablesAreShown(t *testing.T) {
	s := "fn main(): int { let x: int; let b: bool = true; if b { x = 5; } while b { x = 6; b = false; } let y: int = 1; return y; }"
	wantState(t, s, nil, 4, 0, frame(0, 4, has(1, 1)))
	wantState(t, s, nil, 5, 0, frame(0, 5, has(1, 1)))
	wantState(t, s, nil, 7, 0, frame(0, 7, has(0, 6), has(1, 1)))
	wantState(t, s, nil, 8, 0, frame(0, 5, has(1, 0)))
	wantState(t, s, nil, 10, 0, frame(0, 9, has(1, 0), has(2, 1)))
	loop := "fn main(): int { let i: int = 0; while i < 2 { let z: int; print i; z = i; i = i + 1; } return i; }"
	wantState(t, loop, nil, 8, 1, frame(0, 3, has(0, 1)))
	wantState(t, loop, nil, 9, 1, frame(0, 4, has(0, 1)))
	wantState(t, loop, nil, 11, 2, frame(0, 6, has(0, 1), has(1, 1)))
}

func TestStatesAheadOfATrap(t *testing.T) {
	s := "fn main(): int { print read(); print read(); return read(); }"
	wantState(t, s, nums(4), 1, 0, frame(0, 1))
	wantState(t, s, nums(4), 2, 1, frame(0, 2))
	for k, e := range map[int]api.Errno{1: api.OK, 2: api.OK, 3: api.ErrEnd, 4: api.ErrEnd} {
		if _, _, got := source.State(mustParse(t, s), nums(4), k); got != e {
			t.Errorf("at %d: %d, want %d", k, got, e)
		}
	}
}

func TestErrorsOfState(t *testing.T) {
	for _, c := range []struct {
		s string
		k int
		e api.Errno
	}{
		{counting, 0, api.ErrArg}, {counting, -1, api.ErrArg}, {counting, least, api.ErrArg}, {counting, source.MaxEntries + 1, api.ErrArg}, {counting, greatest, api.ErrArg},
		{counting, 15, api.ErrEnd}, {counting, source.MaxEntries, api.ErrEnd},
		{"fn f(){}", 0, api.ErrArg}, {"fn f(){}", source.MaxEntries + 1, api.ErrArg}, {"fn f(){}", 1, api.ErrMain}, {"fn main(): int { return x; }", source.MaxEntries, api.ErrName},
	} {
		l, outs, e := source.State(mustParse(t, c.s), nil, c.k)
		if e != c.e || len(l) != 0 || outs != 0 {
			t.Errorf("State(%s, %d) = %v %d %d, want the error %d", c.s, c.k, l, outs, e, c.e)
		}
	}
	if _, _, e := source.State(mustParse(t, "fn main(): int { while true { } return 0; }"), nil, source.MaxEntries); e != api.OK {
		t.Error("the last entry that may be asked for", e)
	}
}

// TestStatesShareNoMemory: an array that two frames have is two lists.
func TestStatesShareNoMemory(t *testing.T) {
	s := "fn f(a: arr, b: arr) { a[0] = 3; print a[0]; } fn main(): int { let x: arr[2]; f(x, x); return 0; }"
	want := []api.Frame{frame(0, 2, cells(0, 3, 0), cells(1, 3, 0)), frame(1, 4, cells(0, 3, 0))}
	p := mustParse(t, s)
	l, _, _ := source.State(p, nil, 4)
	again, _, _ := source.State(p, nil, 4)
	lists := [][]int64{l[0].Vars[0].List, l[0].Vars[1].List, l[1].Vars[0].List}
	for i, x := range lists {
		x = x[:cap(x)]
		for j := range x {
			x[j] = int64(100 + i)
		}
	}
	for i, x := range lists {
		if slices.ContainsFunc(x, func(n int64) bool { return n != int64(100+i) }) {
			t.Error("two lists of one answer share memory", lists)
		}
	}
	clear(l[0].Vars[:cap(l[0].Vars)])
	if len(l[1].Vars) != 1 || l[1].Vars[0].List == nil {
		t.Error("the frames' variables share memory")
	}
	clear(l[:cap(l)])
	if !reflect.DeepEqual(plain(again), plain(want)) {
		t.Errorf("%v, want %v", again, want)
	}
	wantState(t, s, nil, 4, 0, want...)
}
